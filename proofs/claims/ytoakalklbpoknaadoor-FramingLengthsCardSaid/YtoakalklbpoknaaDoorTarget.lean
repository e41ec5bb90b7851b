/-
  Layer 7 (target), in plain words: which bytes may stand where, the text ahead of a byte and behind it, hosts, paths, queries, and the target that a text is in a request of a method; a target's text; that it is read as the same. No program is spoken of.
-/
import Derived.Test.YtoakalklbpoknaaDoorNumber
import Derived.Test.YtoakalklbpoknaaDoorTextWords
import Derived.Test.YtoakalklbpoknaaDoorCut
import Derived.Test.YtoakalklbpoknaaDoorShelf
import Derived.Test.YtoakalklbpoknaaDoorText
import Derived.WalkKit
import Derived.WalkMore
import Derived.Lib.IndexAny
import Derived.Lib.IndexBytes
import Derived.Lib.CutLaws
import Derived.Lib.QuoteLoop
import Derived.Lib.RuneCount
import Derived.Laws.RangeAny
import Derived.Laws.Runes
import Derived.Deep.LoopGhost
import Derived.Deep.QuietTactic
import Derived.BigQuiet
import Derived.Deep.CutBlock
import Derived.Deep.DeepCutAuto
namespace Go.Proofs.YtoakalklbpoknaaDoor.Tgt
open Go.RowKit Base Oct Num Txt


def nameMarks : List UInt8 := [45, 46, 95, 126]
def pathMarks : List UInt8 := [45, 46, 95, 126, 33, 36, 38, 39, 40, 41, 42, 43, 44, 59, 61, 58, 64, 47]
def queryMarks : List UInt8 := [45, 46, 95, 126, 33, 36, 38, 39, 40, 41, 42, 43, 44, 59, 61, 58, 64, 47, 63]
/-- A letter, a digit, a mark. -/
def plainB (ms : List UInt8) (c : UInt8) : Bool := Oct.letter (c.toNat : Int) || Oct.digit (c.toNat : Int) || ms.contains c
def hexB (c : UInt8) : Bool := Oct.isHex (c.toNat : Int)
theorem hex_plain_tab : ∀ k : Fin 256, hexB (UInt8.ofNat k.val) = true → plainB [] (UInt8.ofNat k.val) = true ∧ UInt8.ofNat k.val ≠ 37 := by decide +kernel
theorem hex_plain (ms : List UInt8) (c : UInt8) (h : hexB c = true) : plainB ms c = true ∧ c ≠ 37 := by
  have e : UInt8.ofNat c.toNat = c := by simp
  have := hex_plain_tab ⟨c.toNat, c.toNat_lt⟩
  simp only [e] at this
  obtain ⟨h1, h2⟩ := this h
  refine ⟨?_, h2⟩
  simp only [plainB, List.contains_nil, Bool.or_false] at h1
  simp only [plainB, h1, Bool.true_or]
/-- May c stand there, with r behind it? -/
def okAt (ms : List UInt8) (c : UInt8) : List UInt8 → Bool
  | a :: b :: _ => if c = 37 then hexB a && hexB b else plainB ms c
  | _ => plainB ms c
def written (ms : List UInt8) : List UInt8 → Bool
  | [] => true
  | c :: r => okAt ms c r && written ms r
theorem okAt_plain (ms : List UInt8) (c : UInt8) (r : List UInt8) (h : c ≠ 37) : okAt ms c r = plainB ms c := by
  unfold okAt
  split
  · rw [if_neg h]
  · rfl
theorem no_pct {ms : List UInt8} (h : ms.contains 37 = false) : plainB ms 37 = false := by
  simp only [plainB, h, Bool.or_false]; decide
theorem written_plain {ms : List UInt8} (hm : ms.contains 37 = false) (c : UInt8) (r : List UInt8) (h : plainB ms c = true) : written ms (c :: r) = written ms r := by
  have hc : c ≠ 37 := fun e => by rw [e, no_pct hm] at h; cases h
  rw [written, okAt_plain ms c r hc, h, Bool.true_and]
theorem written_pct {ms : List UInt8} (a b : UInt8) (r : List UInt8) : written ms (37 :: a :: b :: r) = ((hexB a && hexB b) && written ms r) := by
  rw [written, okAt, if_pos rfl]
  cases ha : hexB a with
  | false => rfl
  | true =>
    cases hb : hexB b with
    | false => rfl
    | true =>
      rw [written, written, okAt_plain ms a _ (hex_plain ms a ha).2, okAt_plain ms b _ (hex_plain ms b hb).2, (hex_plain ms a ha).1, (hex_plain ms b hb).1]
      rfl
theorem written_not {ms : List UInt8} (c : UInt8) (r : List UInt8) (h : plainB ms c = false) (hc : c ≠ 37 ∨ r.length < 2) : written ms (c :: r) = false := by
  rw [written]
  have : okAt ms c r = false := by
    rcases hc with hc | hc
    · rw [okAt_plain ms c r hc]; exact h
    · match r, hc with
      | [], _ => exact h
      | [a], _ => exact h
  rw [this]; rfl
theorem okAt_app {ms : List UInt8} (hm : ms.contains 37 = false) (c : UInt8) (r m : List UInt8) (h : okAt ms c r = true) : okAt ms c (r ++ m) = true := by
  by_cases hc : c = 37
  · subst hc
    match r, h with
    | a :: b :: _, h => exact h
    | [], h => exact absurd (show plainB ms 37 = true from h) (by rw [no_pct hm]; decide)
    | [a], h => exact absurd (show plainB ms 37 = true from h) (by rw [no_pct hm]; decide)
  · rw [okAt_plain _ _ _ hc] at h ⊢; exact h
theorem written_app {ms : List UInt8} (hm : ms.contains 37 = false) : ∀ (l m : List UInt8), written ms l = true → written ms m = true → written ms (l ++ m) = true
  | [], _, _, h => h
  | c :: r, m, h1, h2 => by
    rw [written, Bool.and_eq_true] at h1
    rw [List.cons_append, written, written_app hm r m h1.2 h2, Bool.and_true]
    exact okAt_app hm c r m h1.1
theorem okAt_some {ms : List UInt8} {c : UInt8} {r : List UInt8} (h : okAt ms c r = true) : plainB ms c = true ∨ c = 37 := by
  by_cases hc : c = 37
  · exact .inr hc
  · rw [okAt_plain _ _ _ hc] at h; exact .inl h
/-- What isn't plain and isn't % stands nowhere. -/
theorem written_no {ms : List UInt8} (x : UInt8) (hx : plainB ms x = false) (h37 : x ≠ 37) : ∀ l : List UInt8, written ms l = true → x ∉ l
  | [], _ => by simp
  | c :: r, h => by
    rw [written, Bool.and_eq_true] at h
    simp only [List.mem_cons, not_or]
    refine ⟨fun e => ?_, written_no x hx h37 r h.2⟩
    subst e
    rcases okAt_some h.1 with h | h
    · rw [hx] at h; cases h
    · exact h37 h

def nameOk (l : List UInt8) : Bool := !l.isEmpty && (decide (l.length ≤ 255) && l.all (plainB nameMarks))
def portOk (l : List UInt8) : Bool := decide (l.length ≤ 5) && decide ((readOf 10 65535 l).2 = 0)
def hostB (l : List UInt8) : Bool := nameOk (cutAt 58 l).1 && (!(cutAt 58 l).2.2 || portOk (cutAt 58 l).2.1)
def pathB (l : List UInt8) : Bool := decide (l.head? = some 47) && written pathMarks l
def queryB (l : List UInt8) : Bool := written queryMarks l

/-- A port is of digits. -/
theorem port_no_colon {l : List UInt8} (h : portOk l = true) : (58 : UInt8) ∉ l := by
  intro hm
  simp only [portOk, Bool.and_eq_true, decide_eq_true_eq] at h
  have hall : l.all (digitOf 10) = false := by
    rw [List.all_eq_false]
    exact ⟨58, hm, by decide +kernel⟩
  rw [readOf, hall] at h
  simp at h

/-- A target: its form, host, path, query, and whether there is a question mark. -/
structure Tg where
  form : Nat
  host : List UInt8
  path : List UInt8
  query : List UInt8
  asked : Bool
deriving DecidableEq
def none' : Tg := ⟨0, [], [], [], false⟩
def ended (c : UInt8) : Bool := c == 47 || c == 63
def http : List UInt8 := [104, 116, 116, 112, 58, 47, 47]
def origin (l : List UInt8) : Option Tg := if (pathB (cutAt 63 l).1 && queryB (cutAt 63 l).2.1) = true then some ⟨1, [], (cutAt 63 l).1, (cutAt 63 l).2.1, (cutAt 63 l).2.2⟩ else none
/-- A slash ahead, where there is none. -/
def slashed (l : List UInt8) : List UInt8 := if l.head? = some 47 then l else 47 :: l
def hostOf (l : List UInt8) : List UInt8 := l.takeWhile fun c => !ended c
def restOf (l : List UInt8) : List UInt8 := l.dropWhile fun c => !ended c
def absolute (l : List UInt8) : Option Tg :=
  match origin (slashed (restOf l)) with
  | none => none
  | some t => if hostB (hostOf l) = true then some ⟨2, hostOf l, t.path, t.query, t.asked⟩ else none
def authority (l : List UInt8) : Option Tg := if (l.contains 58 && hostB l) = true then some ⟨3, l, [], [], false⟩ else none
def connect : List UInt8 := [67, 79, 78, 78, 69, 67, 84]
def options : List UInt8 := [79, 80, 84, 73, 79, 78, 83]
/-- Does l begin with the scheme? -/
def schemed (l : List UInt8) : Bool := decide (7 ≤ l.length) && (low (l.take 7) == low http)
def parse (m l : List UInt8) : Option Tg :=
  if m = connect then authority l
  else if m = options ∧ l = [42] then some ⟨4, [], [], [], false⟩
  else if l.head? = some 47 then origin l
  else if schemed l = true then absolute (l.drop 7)
  else none
def putPath (t : Tg) : List UInt8 := if t.asked = true then t.path ++ 63 :: t.query else t.path
def put (t : Tg) : List UInt8 :=
  if t.form = 1 then putPath t
  else if t.form = 2 then http ++ (t.host ++ putPath t)
  else if t.form = 3 then t.host
  else if t.form = 4 then [42]
  else []

theorem putPath_origin {l : List UInt8} {t : Tg} (h : origin l = some t) : putPath t = l ∧ t.form = 1 ∧ t.host = [] := by
  unfold origin at h
  split at h
  · obtain rfl := Option.some.inj h
    refine ⟨?_, rfl, rfl⟩
    unfold putPath
    rcases cut_cases 63 l with h1 | ⟨a, r, rfl, h1⟩
    · simp only [cutAt_none 63 l h1]; rfl
    · simp only [cutAt_app 63 a r h1]; rfl
  · cases h
theorem slashed_head (l : List UInt8) : ∃ r, slashed l = 47 :: r := by
  unfold slashed
  split
  · rename_i h
    cases l with
    | nil => simp at h
    | cons c r =>
      obtain rfl : c = 47 := by simpa using h
      exact ⟨r, rfl⟩
  · exact ⟨l, rfl⟩
theorem takeWhile_all {p : UInt8 → Bool} : ∀ (l : List UInt8), ∀ x ∈ l.takeWhile p, p x = true
  | [], _, h => by cases h
  | c :: l, x, h => by
    rw [List.takeWhile_cons] at h
    split at h
    · rename_i hc
      rcases List.mem_cons.1 h with e | e
      · rw [e]; exact hc
      · exact takeWhile_all l x e
    · cases h
theorem host_cut (p : UInt8 → Bool) (h r : List UInt8) (c : UInt8) (hh : ∀ x ∈ h, p x = true) (hc : p c = false) : (h ++ c :: r).takeWhile p = h ∧ (h ++ c :: r).dropWhile p = c :: r := by
  induction h with
  | nil => simp [hc]
  | cons x h ih =>
    obtain ⟨i1, i2⟩ := ih fun y hy => hh y (by simp [hy])
    have hx := hh x (by simp)
    simp only [List.cons_append, List.takeWhile_cons, List.dropWhile_cons, hx, if_true]
    exact ⟨by rw [i1], i2⟩
theorem schemed_http (l : List UInt8) : schemed (http ++ l) = true := by
  unfold schemed
  have e : (http ++ l).take 7 = http := by rw [List.take_append_of_le_length (by decide)]; rfl
  rw [e]
  simp [http]
theorem drop_http (l : List UInt8) : (http ++ l).drop 7 = l := rfl
/-- A target that was read of a text reads of its own text as the same. -/
theorem back {m l : List UInt8} {t : Tg} (h : parse m l = some t) : parse m (put t) = some t := by
  unfold parse at h
  split at h
  · rename_i hm
    unfold authority at h
    split at h
    · rename_i hk
      obtain rfl := Option.some.inj h
      have e : put ⟨3, l, [], [], false⟩ = l := rfl
      rw [e, parse, if_pos hm, authority, if_pos hk]
    · cases h
  · rename_i hm
    split at h
    · rename_i ho
      obtain rfl := Option.some.inj h
      have e : put ⟨4, [], [], [], false⟩ = [42] := rfl
      rw [e, parse, if_neg hm, if_pos ⟨ho.1, rfl⟩]
    · rename_i ho
      split at h
      · rename_i hs
        obtain ⟨e1, e2, _⟩ := putPath_origin h
        have e : put t = l := by rw [put, if_pos e2, e1]
        rw [e, parse, if_neg hm, if_neg ho, if_pos hs, h]
      · split at h
        · unfold absolute at h
          generalize hl : l.drop 7 = k at h
          split at h
          · cases h
          · rename_i u hu
            split at h
            · rename_i hh
              obtain rfl := Option.some.inj h
              obtain ⟨e1, _, _⟩ := putPath_origin hu
              have e : put ⟨2, hostOf k, u.path, u.query, u.asked⟩ = http ++ (hostOf k ++ slashed (restOf k)) := by
                rw [← e1]; rfl
              obtain ⟨r, hr⟩ := slashed_head (restOf k)
              obtain ⟨c1, c2⟩ := host_cut (fun c => !ended c) (hostOf k) r 47 (takeWhile_all k) (by decide)
              have d1 : hostOf (hostOf k ++ slashed (restOf k)) = hostOf k := by rw [hr]; exact c1
              have d2 : restOf (hostOf k ++ slashed (restOf k)) = slashed (restOf k) := by rw [hr]; exact c2
              have d3 : slashed (slashed (restOf k)) = slashed (restOf k) := by rw [hr]; rfl
              rw [e, parse, if_neg hm, if_neg (by rintro ⟨_, h⟩; simp [http] at h), if_neg (by simp [http]), if_pos (schemed_http _), drop_http, absolute, d1, d2, d3, hu]
              simp only
              rw [if_pos hh]
            · cases h
        · cases h
end Go.Proofs.YtoakalklbpoknaaDoor.Tgt

/-
  What strings.Cut, strings.IndexAny answer where the target's code calls them: at a separator of one byte, and at the two bytes / and ?, of every text, in UTF-8 or not.
-/
namespace Go.Proofs.YtoakalklbpoknaaDoor.Tgt
open Go.RowKit Base Oct Num Txt

def ends2 : ByteArray := ⟨#[47, 63]⟩

theorem encode_two (r : Nat) (h1 : 128 ≤ r) (h2 : r < 2048) : ∃ a b : UInt8, Utf8.encode (r : Int) = ⟨#[a, b]⟩ ∧ 128 ≤ b.toNat := by
  have hv : Utf8.valid (r : Int) = true := by rw [validRune_eq]; simp only [validRune, decide_eq_true_eq]; omega
  refine ⟨UInt8.ofNat (0xC0 + r / 64), UInt8.ofNat (0x80 + r % 64), ?_, ?_⟩
  · unfold Utf8.encode
    have e : ((r : Int)).toNat = r := by omega
    simp only [hv, if_true, e]
    rw [if_neg (by omega), if_pos (by omega)]
  · rw [UInt8.toNat_ofNat_of_lt' (by show _ < 256; omega)]; omega
theorem encode_more (r : Nat) (h2 : 2048 ≤ r) : 3 ≤ (Utf8.encode (r : Int)).size ∧ (Utf8.encode (r : Int)).size ≤ 4 := by
  have e : ((r : Int)).toNat = r := by omega
  unfold Utf8.encode
  simp only [e]
  split
  · rw [if_neg (by omega), if_neg (by omega)]
    split
    · exact ⟨by show 3 ≤ 3; omega, by show 3 ≤ 4; omega⟩
    · exact ⟨by show 3 ≤ 4; omega, by show 4 ≤ 4; omega⟩
  · rw [if_neg (by decide), if_neg (by decide), if_pos (by decide)]
    exact ⟨by show 3 ≤ 3; omega, by show 3 ≤ 4; omega⟩

section code
set_option maxHeartbeats 2000000
set_option maxRecDepth 100000
theorem indexRune_err (w : World) : Calls Tryd.prog 101 #[.string ⟨#[47, 63]⟩, .int .i32 65533] w fun e w' => e = .returned (.int .i64 (-1)) ∧ Below w.heap.size w w' := by
  go_enter Tryd.func101, Tryd.ntmps101
  go_wp2
  go_loopg [5, 6] 2 (fun g _ _ wx => ∃ i : Nat, i + g = 2 ∧ wx = w.iter ⟨#[47, 63]⟩ i)
  case atStart => exact ⟨0, rfl, rfl⟩
  case round =>
    obtain ⟨i, hig, rfl⟩ := hrel
    cases gk with
    | zero =>
      obtain rfl : i = 2 := by omega
      have hnx := fun ty => run_next_end (P := Tryd.prog) w ⟨#[47, 63]⟩ 2 ty (by decide)
      go_wp2
      go_ret
      exact ⟨rfl, (Below.refl _ _).alloc (Nat.le_refl _) _⟩
    | succ g =>
      rcases (by omega : i = 0 ∨ i = 1) with rfl | rfl
      · have hnx := fun ty => run_next_ascii (P := Tryd.prog) w ⟨#[47, 63]⟩ 0 ty (by decide) (by decide)
        rw [show ((ByteArray.mk #[47, 63])[0]'(by decide)).toNat = 47 from rfl] at hnx
        go_wp2
        go_roundg g
        case measure => omega
        case rel => exact ⟨1, by omega, rfl⟩
      · have hnx := fun ty => run_next_ascii (P := Tryd.prog) w ⟨#[47, 63]⟩ 1 ty (by decide) (by decide)
        rw [show ((ByteArray.mk #[47, 63])[1]'(by decide)).toNat = 63 from rfl] at hnx
        go_wp2
        go_roundg g
        case measure => omega
        case rel => exact ⟨2, by omega, rfl⟩

theorem indexRune_high (r : Nat) (w : World) (h1 : 128 ≤ r) (hv : Lib.validRune (r : Int) = true) :
    Calls Tryd.prog 101 #[.string ⟨#[47, 63]⟩, .int .i32 (r : Int)] w fun e w' => e = .returned (.int .i64 (-1)) ∧ Below w.heap.size w w' := by
  by_cases he : r = 65533
  · subst he; exact indexRune_err w
  have t1 : ¬ (r : Int) < 128 := by omega
  have t2 : ((r : Int) == 65533) = false := beq_eq_false_iff_ne.2 (by omega)
  rcases Nat.lt_or_ge r 2048 with hr | hr
  · obtain ⟨a, b, hE, hb⟩ := encode_two r h1 hr
    have t3 : ((63 : Int) != (b.toNat : Int)) = true := bne_iff_ne.2 (by omega)
    clear hr
    have hcv : ∀ w, (convert 21 9 (.int .i32 (r : Int))).run Tryd.prog w = .ok (.string ⟨#[a, b]⟩) w := fun w => by
      rw [run_convert_int_string w 21 9 .i32 (r : Int) (by rw [Tryd.underlying21]; rfl) Tryd.underlying9, hE]
    have m2 : IntKind.i64.wrap 2 = 2 := by decide
    have e0 : (2 : Int) ≤ ((ByteArray.mk #[47, 63]).size : Int) := by decide
    have hib := Lib.hid (fun w => (Tryd.strings_IndexByte ByteArray.empty (b.toNat : Int) w).mono (R := fun e w' => e = .returned (.int .i64 (-1)) ∧ w' = w) fun _ _ h => h)
    have e1 : ∀ h, ((ByteArray.mk #[47, 63])[1]'h).toNat = 63 := fun _ => rfl
    have e2 : ∀ h, ((ByteArray.mk #[a, b])[1]'h) = b := fun _ => rfl
    go_enter Tryd.func101, Tryd.ntmps101
    go_wp2_with (go_at_call 103; with_reducible refine (Tryd.utf8_ValidRune _ _).mono ?_; rintro e w1 ⟨rfl, hw⟩; rw [hw, hv]; clear hw)
    go_step3
    go_wp2
    go_loopw [9, 10] (fun i f wr => i = .int .i64 1 ∧ f = .int .i64 0 ∧ wr = w) (fun _ _ _ => 1)
    case atStart => exact ⟨rfl, rfl, rfl⟩
    case round =>
      obtain ⟨rfl, rfl, rfl⟩ := hrel
      go_wp2_with fail
      go_step3
      go_wp2_with fail
      go_quiet (fail)
      rename_i nq
      have hbq := Lib.hid (show Below wr.heap.size wr (wr.drewN nq) from Base.below_drewN (Below.refl _ _) nq)
      generalize wr.drewN nq = wq at *
      go_wp2_with fail
      go_quiet ((go_at_call 75; exact Calls.quiet_of_same (hib.out _)))
      rename_i nq2
      go_wp2_with fail
      rw [Exit.noGoto_ret]
      show bodyPost Tryd.prog Tryd.f101 (fun e w' => e = .returned (.int .i64 (-1)) ∧ Below wr.heap.size wr w') Exit.ret _ _
      go_ret
      exact ⟨rfl, Base.below_drewN hbq.out _⟩
  · obtain ⟨hz1, hz2⟩ := encode_more r hr
    generalize hE : Utf8.encode (r : Int) = E at *
    have hcv : ∀ w, (convert 21 9 (.int .i32 (r : Int))).run Tryd.prog w = .ok (.string E) w := fun w => by
      rw [run_convert_int_string w 21 9 .i32 (r : Int) (by rw [Tryd.underlying21]; rfl) Tryd.underlying9, hE]
    clear hE
    obtain ⟨n, hn⟩ : ∃ n : Nat, E.size = n + 1 := ⟨E.size - 1, by omega⟩
    have m1 : IntKind.i64.wrap ((E.size : Int) - 1) = (n : Int) := by rw [wrap_in _ (by omega) (by omega)]; omega
    have hn2 : n = 2 ∨ n = 3 := by omega
    clear hn hz1 hz2 hr
    rcases hn2 with rfl | rfl
    · go_enter Tryd.func101, Tryd.ntmps101
      go_wp2_with (go_at_call 103; with_reducible refine (Tryd.utf8_ValidRune _ _).mono ?_; rintro e w1 ⟨rfl, hw⟩; rw [hw, hv]; clear hw)
      go_step3
      go_wp2
      go_loopw [9, 10] (fun i f wr => i = .int .i64 2 ∧ wr = w) (fun _ _ _ => 1)
      case atStart => exact ⟨rfl, rfl⟩
      case round =>
        obtain ⟨rfl, rfl⟩ := hrel
        go_wp2_with fail
        rw [Exit.noGoto_ret]
        show bodyPost Tryd.prog Tryd.f101 (fun e w' => e = .returned (.int .i64 (-1)) ∧ Below wr.heap.size wr w') Exit.ret _ _
        go_ret
        exact ⟨rfl, Below.refl _ _⟩
    · go_enter Tryd.func101, Tryd.ntmps101
      go_wp2_with (go_at_call 103; with_reducible refine (Tryd.utf8_ValidRune _ _).mono ?_; rintro e w1 ⟨rfl, hw⟩; rw [hw, hv]; clear hw)
      go_step3
      go_wp2
      go_loopw [9, 10] (fun i f wr => i = .int .i64 3 ∧ wr = w) (fun _ _ _ => 1)
      case atStart => exact ⟨rfl, rfl⟩
      case round =>
        obtain ⟨rfl, rfl⟩ := hrel
        go_wp2_with fail
        rw [Exit.noGoto_ret]
        show bodyPost Tryd.prog Tryd.f101 (fun e w' => e = .returned (.int .i64 (-1)) ∧ Below wr.heap.size wr w') Exit.ret _ _
        go_ret
        exact ⟨rfl, Below.refl _ _⟩
end code
end Go.Proofs.YtoakalklbpoknaaDoor.Tgt

/-
  What strings.Cut at a separator of one byte and strings.IndexAny at the two bytes / and ? answer, of every text, in UTF-8 or not, as plain words.
-/
namespace Go.Proofs.YtoakalklbpoknaaDoor.Tgt
open Go.RowKit Base Oct Num Txt

theorem idx_split : ∀ l : List UInt8, (Lib.indexAny l [47, 63] = -1 ∧ hostOf l = l ∧ restOf l = []) ∨ ∃ i : Nat, i < l.length ∧ Lib.indexAny l [47, 63] = (i : Int) ∧ hostOf l = l.take i ∧ restOf l = l.drop i
  | [] => .inl ⟨rfl, rfl, rfl⟩
  | b :: l => by
    have hb : [47, 63].contains b = ended b := by rw [List.contains_cons, List.contains_cons, List.contains_nil, Bool.or_false]; rfl
    have e : Lib.indexAny (b :: l) [47, 63] = if [47, 63].contains b then 0 else if Lib.indexAny l [47, 63] == -1 then -1 else Lib.indexAny l [47, 63] + 1 := rfl
    have e1 : hostOf (b :: l) = if (!ended b) = true then b :: hostOf l else [] := by unfold hostOf; rw [List.takeWhile_cons]
    have e2 : restOf (b :: l) = if (!ended b) = true then restOf l else b :: l := by unfold restOf; rw [List.dropWhile_cons]
    rw [e, e1, e2, hb]
    cases ended b with
    | true => exact .inr ⟨0, by simp, rfl, rfl, rfl⟩
    | false =>
      simp only [Bool.not_false, if_true, Bool.false_eq_true, if_false]
      rcases idx_split l with ⟨h1, h2, h3⟩ | ⟨i, h0, h1, h2, h3⟩
      · exact .inl ⟨by rw [h1]; rfl, by rw [h2], h3⟩
      · refine .inr ⟨i + 1, by simp; omega, ?_, by rw [h2]; rfl, by rw [h3]; rfl⟩
        rw [h1, if_neg (by simp)]; omega

theorem decodeN_tail (n b0 b1 b2 b3 : Nat) (hn : 1 ≤ n) : 1 ≤ (Lib.decodeN n b0 b1 b2 b3).2 ∧ (Lib.decodeN n b0 b1 b2 b3).2 ≤ n ∧ (Lib.decodeN n b0 b1 b2 b3).2 ≤ 4 ∧ (1 < (Lib.decodeN n b0 b1 b2 b3).2 → 128 ≤ b1) ∧ (2 < (Lib.decodeN n b0 b1 b2 b3).2 → 128 ≤ b2) ∧ (3 < (Lib.decodeN n b0 b1 b2 b3).2 → 128 ≤ b3) := by
  unfold Lib.decodeN
  repeat' split
  all_goals (simp only; omega)
theorem get_lt (s : ByteArray) (k : Nat) (h : k < s.size) : s.get! k = s[k] := by
  simp [ByteArray.get!, getElem!_pos, h]
  rfl
/-- Behind a byte that is no ASCII the rune's other bytes are no ASCII. -/
theorem rune_high (s : ByteArray) (pos k : Nat) (h : pos < s.size) (h0 : 128 ≤ (s[pos]'h).toNat) (h1 : pos ≤ k) (h2 : k < pos + (Utf8.decode s pos).2) : ∃ hk : k < s.size, 128 ≤ (s[k]'hk).toNat := by
  rw [Lib.decode_at] at h2
  obtain ⟨_, a2, a3, a4, a5, a6⟩ := decodeN_tail (s.size - pos) (s.get! pos).toNat (s.get! (pos + 1)).toNat (s.get! (pos + 2)).toNat (s.get! (pos + 3)).toNat (by omega)
  have hk : k < s.size := by omega
  refine ⟨hk, ?_⟩
  rw [← get_lt s k hk]
  rcases (by omega : k = pos ∨ k = pos + 1 ∨ k = pos + 2 ∨ k = pos + 3) with rfl | rfl | rfl | rfl
  · rw [get_lt s _ h]; exact h0
  · exact a4 (by omega)
  · exact a5 (by omega)
  · exact a6 (by omega)
theorem rune_valid_at (s : ByteArray) (pos : Nat) : Lib.validRune ((Utf8.decode s pos).1 : Int) = true := by
  have h := Lib.decodeN_valid (s.size - pos) (s.get! pos).toNat (s.get! (pos + 1)).toNat (s.get! (pos + 2)).toNat (s.get! (pos + 3)).toNat (UInt8.toNat_lt _)
  rw [← Lib.decode_at] at h
  simp only [Lib.validRune, decide_eq_true_eq]
  omega
theorem next_at {P : Program} (w : World) (g : Nat) (s : ByteArray) (pos : Nat) (ty : TypeId) (h : pos < s.size) (hg : w.heap[g]? = some (.stringIter s pos)) :
    (Instr.next (.pointer (some ⟨g, 0, none⟩)) true ty).run P w = .ok (.tuple #[.bool true, .int .i64 pos, .int .i32 (Utf8.decode s pos).1]) { w with heap := w.heap.setIfInBounds g (.stringIter s (pos + (Utf8.decode s pos).2)) } := by
  have hgl : g < w.heap.size := by
    rcases Nat.lt_or_ge g w.heap.size with h | h
    · exact h
    · rw [Array.getElem?_eq_none h] at hg; cases hg
  simp [Instr.next, getObj, setObj, Sem.run_bind, Sem.run, hg, Result.andThen, h, goInt]
theorem next_last {P : Program} (w : World) (g : Nat) (s : ByteArray) (pos : Nat) (ty : TypeId) (h : ¬ pos < s.size) (hg : w.heap[g]? = some (.stringIter s pos)) :
    (Instr.next (.pointer (some ⟨g, 0, none⟩)) true ty).run P w = .ok (.tuple #[.bool false]) w := by
  simp [Instr.next, getObj, Sem.run, hg, h]
theorem below_iter {B : Nat} {w0 w : World} (h : Below B w0 w) (g : Nat) (hg : B ≤ g) (o : Obj) : Below B w0 { w with heap := w.heap.setIfInBounds g o } := by
  refine ⟨h.os, h.tape, h.output, ?_, fun k hk => ?_⟩
  · simpa using h.size
  · rw [Array.getElem?_setIfInBounds_ne (by omega)]; exact h.block k hk
/-- One step over a text's runes: the world behind it. -/
theorem next_world {P : Program} (w0 w : World) (g : Nat) (s : ByteArray) (pos : Nat) (h : pos < s.size) (hg : w.heap[g]? = some (.stringIter s pos)) (hb : Below g w0 w) :
    ∃ W, (∀ ty, (Instr.next (.pointer (some ⟨g, 0, none⟩)) true ty).run P w = .ok (.tuple #[.bool true, .int .i64 pos, .int .i32 (Utf8.decode s pos).1]) W) ∧ W.heap[g]? = some (.stringIter s (pos + (Utf8.decode s pos).2)) ∧ g < W.heap.size ∧ Below g w0 W := by
  have hgl : g < w.heap.size := by
    rcases Nat.lt_or_ge g w.heap.size with h | h
    · exact h
    · rw [Array.getElem?_eq_none h] at hg; cases hg
  exact ⟨_, fun ty => next_at w g s pos ty h hg, by simp [hgl], by simpa using hgl, below_iter hb g (Nat.le_refl _) _⟩

section code
set_option maxHeartbeats 8000000
set_option maxRecDepth 1000000

theorem zero_256 (w : World) : (zeroValue 102).run Tryd.prog w = .ok (.agg (Array.replicate 256 (.bool false))) w := by kernel_rfl
end code
end Go.Proofs.YtoakalklbpoknaaDoor.Tgt

/-
  Layer 7 (target): what package target's Host, Path, Query answer, of every text up to a great size.
-/
namespace Go.Proofs.YtoakalklbpoknaaDoor.Tgt
open Go.RowKit Base Oct Num Txt

/-- Two answers, one a list's. -/
theorem size_cons {s : ByteArray} {c : UInt8} {r : List UInt8} (h : s.data.toList = c :: r) : s.size = r.length + 1 := by rw [← len, h]; rfl
theorem empty_of {s : ByteArray} (h : s.data.toList = []) : s.toList.isEmpty = true := by rw [Lib.toList_data, h]; rfl
theorem full_of {s : ByteArray} {c : UInt8} {r : List UInt8} (h : s.data.toList = c :: r) : s.toList.isEmpty = false := by rw [Lib.toList_data, h]; rfl
theorem ba_list (l : List UInt8) : (ba l).data.toList = l := rfl
theorem ba_size (l : List UInt8) : (ba l).size = l.length := len_mk l
theorem at_zero {s : ByteArray} {c : UInt8} {r : List UInt8} (h : s.data.toList = c :: r) (h0 : 0 < s.size) : s[0] = c := by
  have := Lib.data_getElem? s 0 h0
  rw [h] at this
  exact (Option.some.inj this).symm
theorem drop_ext (s : ByteArray) (k : Nat) : (s.extract k s.size).data.toList = s.data.toList.drop k := by
  rw [Lib.extract_data, List.take_of_length_le (by rw [List.length_drop, len]; omega)]

section code
set_option maxHeartbeats 1000000
attribute [local go_sem] Base.some_undef
theorem plain_any (c : UInt8) (ms : ByteArray) (w : World) : Calls Tryd.prog 63 #[.int .u8 c.toNat, .string ms] w fun e w' => e = .returned (.bool (plainB ms.data.toList c)) ∧ w' = w := by
  have HD := Lib.hid (fun w => Oct.digit_any (c.toNat : Int) w)
  have HI := Lib.hid (fun w => Tryd.strings_IndexByte ms (c.toNat : Int) w)
  have hcon := Lib.hid (Lib.contains_iff_indexByte ms.data.toList c)
  have hback : ((c.toNat : Int)).toNat.toUInt8 = c := by simp
  rw [hback] at HI
  clear hback
  have hP := Lib.hid (show plainB ms.data.toList c = (Oct.letter (c.toNat : Int) || Oct.digit (c.toNat : Int) || ms.data.toList.contains c) from rfl)
  rw [hcon.out] at hP
  clear hcon
  generalize Lib.indexByte ms.data.toList c = ix at *
  generalize plainB ms.data.toList c = r at *
  generalize (c.toNat : Int) = n at *
  go_enter Tryd.func63, Tryd.ntmps63
  go_wp2_with (first
    | (go_at_call 74; with_reducible refine (HD.out _).mono ?_; rintro e w1 ⟨rfl, hw⟩; rw [hw]; clear hw)
    | (go_at_call 75; with_reducible refine (HI.out _).mono ?_; rintro e w1 ⟨rfl, hw⟩; rw [hw]; clear hw))
  all_goals (go_ret; exact ⟨ret_bool (by rw [hP.out]; simp [Oct.letter, *] <;> omega), rfl⟩)

theorem isName_any (s : ByteArray) (w : World) (hs : s.size ≤ 1000000000) : Calls Tryd.prog 46 #[.string s] w fun e w' => e = .returned (.bool (s.data.toList.all (plainB nameMarks))) ∧ w' = w := by
  obtain ⟨A, hA⟩ : ∃ A, s.data.toList.all (plainB nameMarks) = A := ⟨_, rfl⟩
  rw [hA]
  have HA := Lib.hid hA
  clear hA
  go_enter Tryd.func46, Tryd.ntmps46
  go_wp2
  go_loop [3, 6] (fun _ i => ∃ k : Nat, k ≤ s.size ∧ i = .int .i64 k ∧ Hid ((s.data.toList.take k).all (plainB nameMarks) = true)) (fun _ i => s.size - (intOf i).toNat)
  case atStart => exact ⟨0, Nat.zero_le _, rfl, rfl⟩
  case round =>
    obtain ⟨k, hk, rfl, hno⟩ := hrel
    rcases Nat.lt_or_ge k s.size with hlt | hge
    · have HS := Lib.hid (take_snoc s k hlt)
      have HM := Lib.hid (byte_mem s k hlt)
      have HP := Lib.hid (fun w => plain_any s[k] ⟨#[45, 46, 95, 126]⟩ w)
      rw [show (ByteArray.mk #[45, 46, 95, 126]).data.toList = nameMarks from rfl] at HP
      cases hq : plainB nameMarks s[k] with
      | true =>
        rw [hq] at HP
        go_wp2_with (go_at_call 63; with_reducible refine (HP.out _).mono ?_; rintro e w1 ⟨rfl, hw⟩; rw [hw]; clear hw)
        go_round
        case rel => exact ⟨k + 1, by omega, by go_num, Lib.hid (by rw [HS.out, List.all_append, hno.out]; simp [hq])⟩
        case measure => simp [intOf]; omega
      | false =>
        rw [hq] at HP
        go_wp2_with (go_at_call 63; with_reducible refine (HP.out _).mono ?_; rintro e w1 ⟨rfl, hw⟩; rw [hw]; clear hw)
        go_ret
        exact ⟨by rw [← HA.out, List.all_eq_false.2 ⟨s[k], HM.out, by rw [hq]; decide⟩]; rfl, rfl⟩
    · obtain rfl : k = s.size := by omega
      have hno1 := hno.out
      rw [take_all s _ (Nat.le_refl _)] at hno1
      have HN := Lib.hid (HA.out.symm.trans hno1)
      clear hno hno1
      go_wp2
      go_ret
      exact ⟨by rw [HN.out]; rfl, rfl⟩

theorem hex_all (a b : UInt8) : allOf [5] [a, b] = (hexB a && hexB b) := by
  simp [allOf, oneOf, ofKind, hexB]
theorem isPort_any (s : ByteArray) (w : World) (hs : s.size ≤ 1000000000) : Calls Tryd.prog 47 #[.string s] w fun e w' => e = .returned (.bool (portOk s.data.toList)) ∧ Below w.heap.size w w' := by
  have HD := Lib.hid (fun w => Num.dec_any 65535 (by decide) s w (by unfold maxLen; omega))
  have hP : portOk s.data.toList = (decide (s.size ≤ 5) && decide ((readOf 10 65535 s.data.toList).2 = 0)) := by unfold portOk; rw [len]
  rw [hP]
  clear hP
  generalize (readOf 10 65535 s.data.toList).2 = e at *
  generalize (readOf 10 65535 s.data.toList).1 = n at *
  by_cases h5 : s.size ≤ 5
  · rw [decide_eq_true h5, Bool.true_and]
    have t1 : (s.size : Int) ≤ 5 := by omega
    by_cases he : e = 0
    · subst he
      go_enter Tryd.func47, Tryd.ntmps47
      go_wp2_with (go_at_call 40; with_reducible refine (HD.out _).mono ?_; rintro e w1 ⟨rfl, hb⟩)
      go_ret
      exact ⟨rfl, hb⟩
    · have t2 : (e == 0) = false := beq_eq_false_iff_ne.2 he
      rw [decide_eq_false he]
      clear he
      go_enter Tryd.func47, Tryd.ntmps47
      go_wp2_with (go_at_call 40; with_reducible refine (HD.out _).mono ?_; rintro e w1 ⟨rfl, hb⟩)
      go_ret
      exact ⟨rfl, hb⟩
  · rw [decide_eq_false h5, Bool.false_and]
    have t1 : ¬ (s.size : Int) ≤ 5 := by omega
    go_enter Tryd.func47, Tryd.ntmps47
    go_wp2_with (go_at_call 40; with_reducible refine (HD.out _).mono ?_; rintro e w1 ⟨rfl, hb⟩)
    go_ret
    exact ⟨rfl, hb⟩

theorem host_any (s : ByteArray) (w : World) (hs : s.size ≤ 1000000000) : Calls Tryd.prog 31 #[.string s] w fun e w' => e = .returned (.bool (hostB s.data.toList)) ∧ Below w.heap.size w w' := by
  have HC := Lib.hid (fun w => cut_any s 58 w hs)
  obtain ⟨hl1, hl2⟩ := cutAt_le 58 s.data.toList
  rw [len] at hl1 hl2
  have hH : hostB s.data.toList = (nameOk (cutAt 58 s.data.toList).1 && (!(cutAt 58 s.data.toList).2.2 || portOk (cutAt 58 s.data.toList).2.1)) := rfl
  rw [hH]
  clear hH
  generalize (cutAt 58 s.data.toList).1 = n at *
  generalize (cutAt 58 s.data.toList).2.1 = p at *
  generalize (cutAt 58 s.data.toList).2.2 = b at *
  have HN := Lib.hid (fun w => isName_any (ba n) w (by rw [ba_size]; omega))
  have HP := Lib.hid (fun w => isPort_any (ba p) w (by rw [ba_size]; omega))
  rw [ba_list] at HN HP
  have hsz := ba_size n
  clear hl1 hl2
  cases n with
  | nil =>
    have hE : (ba []).toList.isEmpty = true := empty_of rfl
    clear hsz
    have e : nameOk [] = false := rfl
    rw [e, Bool.false_and]
    clear e
    generalize ba [] = N at *
    generalize ba p = PP at *
    go_enter Tryd.func31, Tryd.ntmps31
    go_wp2_with (go_at_call 45; with_reducible refine (HC.out _).mono ?_; rintro e w1 ⟨rfl, m, hw⟩; rw [hw]; clear hw)
    go_ret
    exact ⟨rfl, Base.below_drewN (Below.refl _ _) _⟩
  | cons c r =>
    have hE : (ba (c :: r)).toList.isEmpty = false := by rw [Lib.toList_data]; rfl
    have e : nameOk (c :: r) = (decide ((c :: r).length ≤ 255) && (c :: r).all (plainB nameMarks)) := rfl
    rw [e]
    clear e
    by_cases hn : (c :: r).length ≤ 255
    · rw [decide_eq_true hn, Bool.true_and]
      have t1 : ((ba (c :: r)).size : Int) ≤ 255 := by omega
      clear hsz hn
      generalize (c :: r).all (plainB nameMarks) = q at *
      generalize ba (c :: r) = N at *
      generalize ba p = PP at *
      generalize portOk p = pk at *
      cases q with
      | false =>
        rw [Bool.false_and]
        go_enter Tryd.func31, Tryd.ntmps31
        go_wp2_with (first
          | (go_at_call 45; with_reducible refine (HC.out _).mono ?_; rintro e w1 ⟨rfl, m, hw⟩; rw [hw]; clear hw)
          | (go_at_call 46; with_reducible refine (HN.out _).mono ?_; rintro e w1 ⟨rfl, hw⟩; rw [hw]; clear hw))
        go_ret
        exact ⟨rfl, Base.below_drewN (Below.refl _ _) _⟩
      | true =>
        rw [Bool.true_and]
        cases b with
        | false =>
          go_enter Tryd.func31, Tryd.ntmps31
          go_wp2_with (first
            | (go_at_call 45; with_reducible refine (HC.out _).mono ?_; rintro e w1 ⟨rfl, m, hw⟩; rw [hw]; clear hw)
            | (go_at_call 46; with_reducible refine (HN.out _).mono ?_; rintro e w1 ⟨rfl, hw⟩; rw [hw]; clear hw))
          go_ret
          exact ⟨rfl, Base.below_drewN (Below.refl _ _) _⟩
        | true =>
          rw [Bool.not_true, Bool.false_or]
          go_enter Tryd.func31, Tryd.ntmps31
          go_wp2_with (first
            | (go_at_call 45; with_reducible refine (HC.out _).mono ?_; rintro e w1 ⟨rfl, m, hw⟩; rw [hw]; clear hw)
            | (go_at_call 46; with_reducible refine (HN.out _).mono ?_; rintro e w1 ⟨rfl, hw⟩; rw [hw]; clear hw)
            | (go_at_call 47; with_reducible refine (HP.out _).mono ?_; rintro e w2 ⟨rfl, hb⟩))
          go_ret
          exact ⟨rfl, Base.below_step (Base.below_drewN (Below.refl _ _) _) hb⟩
    · rw [decide_eq_false hn, Bool.false_and, Bool.false_and]
      have t1 : ¬ ((ba (c :: r)).size : Int) ≤ 255 := by omega
      clear hsz hn
      generalize ba (c :: r) = N at *
      generalize ba p = PP at *
      go_enter Tryd.func31, Tryd.ntmps31
      go_wp2_with (go_at_call 45; with_reducible refine (HC.out _).mono ?_; rintro e w1 ⟨rfl, m, hw⟩; rw [hw]; clear hw)
      go_ret
      exact ⟨rfl, Base.below_drewN (Below.refl _ _) _⟩

theorem prefix_slash (l : List UInt8) : Lib.hasPrefix l [47] = decide (l.head? = some 47) := by
  cases l with
  | nil => rfl
  | cons c r =>
    have : Lib.hasPrefix (c :: r) [47] = (47 == c) := by simp [Lib.hasPrefix, List.isPrefixOf]
    rw [this, List.head?_cons]
    by_cases h : c = 47
    · subst h; rfl
    · rw [decide_eq_false (fun e => h (Option.some.inj e)), beq_eq_false_iff_ne]
      exact fun e => h e.symm
end code
end Go.Proofs.YtoakalklbpoknaaDoor.Tgt

/-
  Layer 7 (target): what package target's Parse answers, of every method and text up to a great size.
-/
namespace Go.Proofs.YtoakalklbpoknaaDoor.Tgt
open Go.RowKit Base Oct Num Txt

/-- A target as a value. -/
abbrev tv (f : Int) (h p q : ByteArray) (a : Bool) : Value := .agg #[.int .i64 f, .string h, .string p, .string q, .bool a]
abbrev E0 : ByteArray := ⟨#[]⟩
/-- What a reading answers: a target and no error, or none and the error. -/
def ans : Option Tg → Value
  | none => .tuple #[tv 0 E0 E0 E0 false, .int .i64 400]
  | some t => .tuple #[tv t.form (ba t.host) (ba t.path) (ba t.query) t.asked, .int .i64 0]

/-- A block that the call made holds a target, and may be written. -/
structure Tgb (w : World) (g : Nat) (f : Int) (h p q : ByteArray) (a : Bool) : Prop where
  c0 : w.cell? ⟨g, 0, none⟩ = some (.int .i64 f)
  c1 : w.cell? ⟨g, 1, none⟩ = some (.string h)
  c2 : w.cell? ⟨g, 2, none⟩ = some (.string p)
  c3 : w.cell? ⟨g, 3, none⟩ = some (.string q)
  c4 : w.cell? ⟨g, 4, none⟩ = some (.bool a)
  z0 : w.frozen? ⟨g, 0, none⟩ = false
  z1 : w.frozen? ⟨g, 1, none⟩ = false
  z2 : w.frozen? ⟨g, 2, none⟩ = false
  z3 : w.frozen? ⟨g, 3, none⟩ = false
  z4 : w.frozen? ⟨g, 4, none⟩ = false
theorem Tgb.below {w w' : World} {g : Nat} {f : Int} {h p q : ByteArray} {a : Bool} (H : Tgb w g f h p q a) (hg : g < w.heap.size) (hb : Below w.heap.size w w') : Tgb w' g f h p q a :=
  ⟨(hb.cell (p := ⟨g, 0, none⟩) hg).trans H.c0, (hb.cell (p := ⟨g, 1, none⟩) hg).trans H.c1, (hb.cell (p := ⟨g, 2, none⟩) hg).trans H.c2, (hb.cell (p := ⟨g, 3, none⟩) hg).trans H.c3, (hb.cell (p := ⟨g, 4, none⟩) hg).trans H.c4,
   (hb.frozen (p := ⟨g, 0, none⟩) hg).trans H.z0, (hb.frozen (p := ⟨g, 1, none⟩) hg).trans H.z1, (hb.frozen (p := ⟨g, 2, none⟩) hg).trans H.z2, (hb.frozen (p := ⟨g, 3, none⟩) hg).trans H.z3, (hb.frozen (p := ⟨g, 4, none⟩) hg).trans H.z4⟩
theorem Tgb.new (w : World) (t : TypeId) (f : Int) (h p q : ByteArray) (a : Bool) : Tgb (w.alloc (.cells #[.int .i64 f, .string h, .string p, .string q, .bool a] t)) w.heap.size f h p q a := by
  have hh := heap_alloc_new w (.cells #[.int .i64 f, .string h, .string p, .string q, .bool a] t)
  have c : ∀ k v, (#[Value.int .i64 f, .string h, .string p, .string q, .bool a] : Array Value)[k]? = some v → (w.alloc (.cells #[.int .i64 f, .string h, .string p, .string q, .bool a] t)).cell? ⟨w.heap.size, k, none⟩ = some v :=
    fun k v e => (cell_of_row (w.alloc _) w.heap.size k _ t (0, 0) hh).trans e
  have z : ∀ k, (w.alloc (.cells #[.int .i64 f, .string h, .string p, .string q, .bool a] t)).frozen? ⟨w.heap.size, k, none⟩ = false := fun k => by unfold World.frozen?; simp only [hh]; simp
  exact ⟨c 0 _ rfl, c 1 _ rfl, c 2 _ rfl, c 3 _ rfl, c 4 _ rfl, z 0, z 1, z 2, z 3, z 4⟩
theorem Tgb.put {B : Nat} {w0 w : World} {g : Nat} {f : Int} {h p q : ByteArray} {a : Bool} (H : Tgb w g f h p q a) (hb : Below B w0 w) (hg : B ≤ g) (f' : Int) (h' p' q' : ByteArray) (a' : Bool) :
    ∃ W, ((((w.setCell ⟨g, 0, none⟩ (.int .i64 f')).setCell ⟨g, 1, none⟩ (.string h')).setCell ⟨g, 2, none⟩ (.string p')).setCell ⟨g, 3, none⟩ (.string q')).setCell ⟨g, 4, none⟩ (.bool a') = W ∧ Tgb W g f' h' p' q' a' ∧ Below B w0 W := by
  obtain ⟨c0, c1, c2, c3, c4, z0, z1, z2, z3, z4⟩ := H
  refine ⟨_, rfl, ⟨?_, ?_, ?_, ?_, ?_, ?_, ?_, ?_, ?_, ?_⟩, ((((hb.setCell hg _).setCell hg _).setCell hg _).setCell hg _).setCell hg _⟩
  all_goals go_simp
theorem Tgb.other {w : World} {g : Nat} {f : Int} {h p q : ByteArray} {a : Bool} (H : Tgb w g f h p q a) (g' o : Nat) (v : Value) (n2 : ¬ g' = g) : Tgb (w.setCell ⟨g', o, none⟩ v) g f h p q a := by
  obtain ⟨c0, c1, c2, c3, c4, z0, z1, z2, z3, z4⟩ := H
  refine ⟨?_, ?_, ?_, ?_, ?_, ?_, ?_, ?_, ?_, ?_⟩
  all_goals go_simp
section code
set_option maxHeartbeats 1000000
attribute [local go_sem] Base.some_undef
end code
end Go.Proofs.YtoakalklbpoknaaDoor.Tgt

/-
  Layer 7 (target): what package target's absolute and Parse answer, of every method and text up to a great size.
-/
namespace Go.Proofs.YtoakalklbpoknaaDoor.Tgt
open Go.RowKit Base Oct Num Txt

theorem hostOf_le (l : List UInt8) : (hostOf l).length ≤ l.length := (List.takeWhile_sublist _).length_le
theorem restOf_le (l : List UInt8) : (restOf l).length ≤ l.length := (List.dropWhile_sublist _).length_le
theorem slashed_le (l : List UInt8) : (slashed l).length ≤ l.length + 1 := by unfold slashed; split <;> simp
section code
set_option maxHeartbeats 1000000
attribute [local go_sem] Base.some_undef
/-- Whether two texts are one. -/
theorem toList_ba (m : ByteArray) (l : List UInt8) : (m.toList == l) = decide (m.data.toList = l) := by
  rw [Lib.toList_data, Bool.eq_iff_iff, beq_iff_eq, decide_eq_true_eq]
/-- .. by the two ways that a walk writes it. -/
theorem eq_facts (m : ByteArray) (l : List UInt8) (b : Bool) (h : decide (m.data.toList = l) = b) : (m.toList == l) = b ∧ (m.toList == (ByteArray.mk l.toArray).toList) = b := by
  have h1 := toList_ba m l
  rw [h] at h1
  exact ⟨h1, by rw [show (ByteArray.mk l.toArray).toList = l from Lib.toList_data _]; exact h1⟩
theorem ans_form (R : Option Tg) : ∃ (f : Int) (h p q : ByteArray) (a : Bool) (e : Int), ans R = .tuple #[tv f h p q a, .int .i64 e] := by
  cases R with
  | none => exact ⟨_, _, _, _, _, _, rfl⟩
  | some t => exact ⟨_, _, _, _, _, _, rfl⟩
end code
end Go.Proofs.YtoakalklbpoknaaDoor.Tgt
