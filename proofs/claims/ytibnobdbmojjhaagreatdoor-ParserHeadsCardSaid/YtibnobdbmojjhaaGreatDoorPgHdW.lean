/-
  Layer 13 (parser), in plain words: heads: a line of fields at a time, too many of them, a line too long, too many bytes. No program is spoken of.
-/
import Derived.Test.YtibnobdbmojjhaaGreatDoorPgFeed
namespace Go.Proofs.YtibnobdbmojjhaaGreatDoor.Pg
open Go.RowKit Base Txt Par

abbrev headB (x0 x1 x2 : Int) : Bd := ⟨x0, x1, x2, 65536, 32, 8, 4, 20, true, true⟩
abbrev hdR (fs : List Fld) : Rec.R := ⟨ba [71, 69, 84], ba [47], 1, fs, false, [], []⟩
/-- Within a head, behind a line. -/
structure T.Head (t : T) (x0 : Int) (fs : List Fld) (n : Nat) : Prop where
  st : t.st = 2
  pend : t.rd.pend = false
  nf : Ln.failed t.rd.last = false
  buf : t.rd.clear.buf = []
  most : t.rd.most = Ln.mid x0
  r : t.r = hdR fs
  hl : t.hl = fs.length
  size : t.size = n
  out : t.out = []
theorem T.Head.open {t : T} {x0 : Int} {fs : List Fld} {n : Nat} (h : t.Head x0 fs n) : t.Open := ⟨by rw [h.st]; rfl, h.pend, h.nf⟩
theorem line_st2 {p : Nat} {b : Bd} {t : T} {s : List UInt8} (h : t.st = 2) : T.line p b t s = T.fields p b t s := by
  unfold T.line
  rw [if_neg (by rw [h]; decide), if_pos h]
theorem plain_of (l : List UInt8) (h : l.all (fun c => !(c == 10) && !(c == 13)) = true) : ∀ c ∈ l, c ≠ 10 ∧ c ≠ 13 := by
  intro c hc
  have := List.all_eq_true.1 h c hc
  simpa using this
section
variable {x0 x1 x2 : Int} {fs : List Fld} {n : Nat} {t : T}
/-- The lines of fields that there are room for. -/
theorem head_field {s nm v : List UInt8} (h : t.Head x0 fs n) (hc : ∀ c ∈ s, c ≠ 10 ∧ c ≠ 13) (hs : s ≠ []) (hm : s.length ≤ Ln.mid x0) (hx2 : ((n + (s.length + 2) : Nat) : Int) ≤ x2) (hx1 : ((fs.length + 1 : Nat) : Int) ≤ x1) (hg : Fd.goes 0 s = false) (hp : Fd.parse (Fd.clOf 0) s = some (some (nm, v))) :
    ∃ t', (Q.live t).feed 0 (headB x0 x1 x2) (s ++ [13, 10]) = .live t' ∧ t'.Head x0 (fs ++ [(ba nm, ba v)]) (n + (s.length + 2)) := by
  have e := feed_line (p := 0) (b := headB x0 x1 x2) (t := t) s h.open h.buf hc (by rw [h.most]; exact hm) (by intro _; rw [h.size]; exact hx2)
  have hv : fieldV 0 t.hl t.r.fs s x1 = .inr (fs ++ [(ba nm, ba v)]) := by
    rw [h.hl, h.r]
    show fieldV 0 fs.length fs s x1 = _
    unfold fieldV
    rw [if_neg (by omega), hg, if_neg (by simp), hp]
  obtain ⟨t', ht'⟩ : ∃ t', ({ t.went { t.rd with buf := s, last := 1, pend := false } (s.length + 2) with hl := t.hl + 1, r := { t.r with fs := fs ++ [(ba nm, ba v)] } } : T) = t' := ⟨_, rfl⟩
  have hl : T.line 0 (headB x0 x1 x2) (t.went { t.rd with buf := s, last := 1, pend := false } (s.length + 2)) s = (0, t') := by
    refine (line_st2 (show (t.went { t.rd with buf := s, last := 1, pend := false } (s.length + 2)).st = 2 from h.st)).trans ?_
    unfold T.fields
    rw [if_neg hs, ← ht']
    show (listE (fieldV 0 t.hl t.r.fs s x1), ({ t.went _ _ with hl := t.hl + 1, r := { t.r with fs := listL t.r.fs (fieldV 0 t.hl t.r.fs s x1) } } : T)) = _
    rw [hv]; rfl
  refine ⟨t', e.trans (congrArg ends hl), ?_⟩
  rw [← ht']
  refine ⟨h.st, rfl, rfl, rfl, h.most, ?_, ?_, ?_, h.out⟩
  · show ({ t.r with fs := fs ++ [(ba nm, ba v)] } : Rec.R) = _
    rw [h.r]
  · show t.hl + 1 = _
    rw [h.hl, List.length_append]; rfl
  · show (if headed t.st = true then t.size + (s.length + 2) else t.size) = _
    rw [h.st, h.size]; rfl
/-- A line of fields too many. -/
theorem head_many {s : List UInt8} (h : t.Head x0 fs n) (hc : ∀ c ∈ s, c ≠ 10 ∧ c ≠ 13) (hs : s ≠ []) (hm : s.length ≤ Ln.mid x0) (hx2 : ((n + (s.length + 2) : Nat) : Int) ≤ x2) (hx1 : x1 < ((fs.length + 1 : Nat) : Int)) :
    (Q.live t).feed 0 (headB x0 x1 x2) (s ++ [13, 10]) = .dead 431 [] := by
  have e := feed_line (p := 0) (b := headB x0 x1 x2) (t := t) s h.open h.buf hc (by rw [h.most]; exact hm) (by intro _; rw [h.size]; exact hx2)
  have hv : fieldV 0 t.hl t.r.fs s x1 = .inl 431 := by
    rw [h.hl]
    unfold fieldV
    rw [if_pos hx1]
  refine e.trans ?_
  rw [line_st2 (show (t.went { t.rd with buf := s, last := 1, pend := false } (s.length + 2)).st = 2 from h.st)]
  unfold T.fields
  rw [if_neg hs]
  show ends (listE (fieldV 0 t.hl t.r.fs s x1), ({ t.went { t.rd with buf := s, last := 1, pend := false } (s.length + 2) with hl := t.hl + 1, r := { t.r with fs := listL t.r.fs (fieldV 0 t.hl t.r.fs s x1) } } : T)) = _
  rw [hv]
  show Q.dead 431 t.out = _
  rw [h.out]
theorem endHead_none (h : t.r = hdR fs) (hd : Frm.decideV (Frm.clOf 0) true 65536 1 fs = (1, 0, 0)) : T.endHead 0 (headB x0 x1 x2) t = (0, t.fin) := by
  have hd' : Frm.decideV (Frm.clOf 0) (headB x0 x1 x2).ch (headB x0 x1 x2).x3 t.r.k t.r.fs = (1, 0, 0) := by rw [h]; exact hd
  unfold T.endHead
  rw [hd']
  rfl
/-- The end of a head without a body. -/
theorem head_end (h : t.Head x0 fs n) (hx2 : ((n + 2 : Nat) : Int) ≤ x2) (hd : Frm.decideV (Frm.clOf 0) true 65536 1 fs = (1, 0, 0)) :
    ∃ t', (Q.live t).feed 0 (headB x0 x1 x2) [13, 10] = .live t' ∧ t'.out = [hdR fs] := by
  have e := feed_line (p := 0) (b := headB x0 x1 x2) (t := t) [] h.open h.buf (by intro c hc; cases hc) (Nat.zero_le _) (by intro _; rw [h.size]; exact hx2)
  have hl : T.line 0 (headB x0 x1 x2) (t.went { t.rd with buf := [], last := 1, pend := false } (([] : List UInt8).length + 2)) [] = (0, (t.went { t.rd with buf := [], last := 1, pend := false } 2).fin) := by
    refine (line_st2 (show (t.went { t.rd with buf := [], last := 1, pend := false } 2).st = 2 from h.st)).trans ?_
    unfold T.fields
    rw [if_pos rfl]
    exact endHead_none (show (t.went { t.rd with buf := [], last := 1, pend := false } 2).r = hdR fs from h.r) hd
  refine ⟨_, (show (Q.live t).feed 0 (headB x0 x1 x2) ([] ++ [13, 10]) = _ from e).trans (congrArg ends hl), ?_⟩
  show t.out ++ [t.r] = _
  rw [h.out, h.r]; rfl
/-- A byte too many in a head. -/
theorem take_over {p : Nat} {b : Bd} {c : UInt8} (h : headed t.st = true) (hx : b.x2 < ((t.size + 1 : Nat) : Int)) : t.take p b c = .dead 431 t.out := by
  have hb : ¬ bodied t.st = true := by
    intro hb
    unfold headed at h
    unfold bodied at hb
    simp only [Bool.or_eq_true, beq_iff_eq] at h hb
    omega
  have hl : ({ t with cnt := false } : T).look p b c = (.dead 431 t.out, true) := by
    unfold T.look
    rw [if_neg (show ¬ bodied ({ t with cnt := false } : T).st = true from hb), if_pos (show headed ({ t with cnt := false } : T).st = true from h)]
    rw [if_pos (show b.x2 < ((({ t with cnt := false } : T).counted.size : Nat) : Int) from hx)]
  unfold T.take
  rw [hl]
end
/-- The first line and Host. -/
def hostL : List UInt8 := ([71, 69, 84, 32, 47, 32, 72, 84, 84, 80, 47, 49, 46, 49] ++ [13, 10]) ++ ([72, 111, 115, 116, 58, 32, 97] ++ [13, 10])
abbrev hostF : Fld := (ba [72, 111, 115, 116], ba [97])
theorem host_req : Rq.request (Rq.clOf 0) true [71, 69, 84, 32, 47, 32, 72, 84, 84, 80, 47, 49, 46, 49] = ([71, 69, 84], [47], 1, 0) := by decide +kernel
theorem host_fld : Fd.parse (Fd.clOf 0) [72, 111, 115, 116, 58, 32, 97] = some (some ([72, 111, 115, 116], [97])) := by decide +kernel
theorem head_start {x0 x1 x2 : Int} (h0 : 64 ≤ x0) (h1 : 4 ≤ x1) (h2 : 256 ≤ x2) :
    ∃ t', (Q.live (T.new 0 (headB x0 x1 x2))).feed 0 (headB x0 x1 x2) hostL = .live t' ∧ t'.Head x0 [hostF] 25 := by
  have hmid : 64 ≤ Ln.mid x0 := by unfold Ln.mid; omega
  obtain ⟨t, ht⟩ : ∃ t, T.new 0 (headB x0 x1 x2) = t := ⟨_, rfl⟩
  have ho : t.Open := by rw [← ht]; exact ⟨rfl, rfl, rfl⟩
  have e1 := feed_line (p := 0) (b := headB x0 x1 x2) (t := t) [71, 69, 84, 32, 47, 32, 72, 84, 84, 80, 47, 49, 46, 49] ho (by rw [← ht]; rfl) (plain_of _ (by decide)) (by rw [← ht]; show 14 ≤ Ln.mid x0; omega) (by intro _; rw [← ht]; show ((0 + 16 : Nat) : Int) ≤ x2; omega)
  obtain ⟨t1, ht1⟩ : ∃ t1, ({ t.went { t.rd with buf := [71, 69, 84, 32, 47, 32, 72, 84, 84, 80, 47, 49, 46, 49], last := 1, pend := false } 16 with r := { zero with m := ba [71, 69, 84], x := ba [47], k := 1 }, st := 2 } : T) = t1 := ⟨_, rfl⟩
  have hl1 : T.line 0 (headB x0 x1 x2) (t.went { t.rd with buf := [71, 69, 84, 32, 47, 32, 72, 84, 84, 80, 47, 49, 46, 49], last := 1, pend := false } 16) [71, 69, 84, 32, 47, 32, 72, 84, 84, 80, 47, 49, 46, 49] = (0, t1) := by
    unfold T.line
    rw [if_pos (show (t.went { t.rd with buf := [71, 69, 84, 32, 47, 32, 72, 84, 84, 80, 47, 49, 46, 49], last := 1, pend := false } 16).st = 1 by rw [← ht]; rfl)]
    unfold T.first
    rw [if_neg (by decide), show Rq.request (Rq.clOf 0) (headB x0 x1 x2).od [71, 69, 84, 32, 47, 32, 72, 84, 84, 80, 47, 49, 46, 49] = ([71, 69, 84], [47], 1, 0) from host_req, ← ht1]
    dsimp only
    rw [if_pos rfl, show (t.went { t.rd with buf := [71, 69, 84, 32, 47, 32, 72, 84, 84, 80, 47, 49, 46, 49], last := 1, pend := false } 16).r = zero by rw [← ht]; rfl]
    rfl
  have hh : t1.Head x0 [] 16 := by
    rw [← ht1, ← ht]
    exact ⟨rfl, rfl, rfl, rfl, rfl, rfl, rfl, rfl, rfl⟩
  obtain ⟨t2, f2, h2'⟩ := head_field (x1 := x1) (x2 := x2) hh (s := [72, 111, 115, 116, 58, 32, 97]) (plain_of _ (by decide)) (by decide) (by show 7 ≤ Ln.mid x0; omega) (by show ((16 + 9 : Nat) : Int) ≤ x2; omega) (by show ((0 + 1 : Nat) : Int) ≤ x1; omega) rfl host_fld
  refine ⟨t2, ?_, h2'⟩
  unfold hostL
  rw [feed_app, ht, e1.trans (congrArg ends hl1)]
  exact f2
/-- So many lines of 'A: b'. -/
def abL : Nat → List UInt8
  | 0 => []
  | n + 1 => abL n ++ [65, 58, 32, 98, 13, 10]
theorem ab_fld : Fd.parse (Fd.clOf 0) [65, 58, 32, 98] = some (some ([65], [98])) := by decide +kernel
def abF (c : Nat) : List Fld := hostF :: List.replicate c (ba [65], ba [98])
theorem abF_succ (c : Nat) : abF c ++ [(ba [65], ba [98])] = abF (c + 1) := by
  unfold abF
  rw [List.replicate_succ']; rfl
theorem abF_length (c : Nat) : (abF c).length = c + 1 := by unfold abF; simp
theorem ab_frm : ∀ c : Fin 10, Frm.decideV (Frm.clOf 0) true 65536 1 (abF c.val) = (1, 0, 0) := by decide +kernel
theorem ab_feed {x1 x2 : Int} (h1 : 4 ≤ x1) (h2 : 256 ≤ x2) : ∀ c : Nat, c < 10 →
    (((c + 1 : Nat) : Int) ≤ x1 → ∃ t', (Q.live (T.new 0 (headB 64 x1 x2))).feed 0 (headB 64 x1 x2) (hostL ++ abL c) = .live t' ∧ t'.Head 64 (abF c) (25 + 6 * c)) ∧
    (x1 < ((c + 1 : Nat) : Int) → (Q.live (T.new 0 (headB 64 x1 x2))).feed 0 (headB 64 x1 x2) (hostL ++ abL c) = .dead 431 [])
  | 0, _ => by
    refine ⟨fun _ => ?_, fun h => absurd h (by omega)⟩
    obtain ⟨t, f, h⟩ := head_start (x0 := 64) (by decide) h1 h2
    exact ⟨t, by rw [show hostL ++ abL 0 = hostL from List.append_nil _]; exact f, h⟩
  | c + 1, hc => by
    have ih := ab_feed h1 h2 c (by omega)
    have ea : hostL ++ abL (c + 1) = (hostL ++ abL c) ++ ([65, 58, 32, 98] ++ [13, 10]) := by
      show hostL ++ (abL c ++ [65, 58, 32, 98, 13, 10]) = _
      rw [List.append_assoc]; rfl
    have hmid : 4 ≤ Ln.mid 64 := by decide
    rw [ea, feed_app]
    refine ⟨fun h => ?_, fun h => ?_⟩
    · obtain ⟨t, f, hh⟩ := ih.1 (by omega)
      obtain ⟨t', f', hh'⟩ := head_field (x1 := x1) (x2 := x2) hh (s := [65, 58, 32, 98]) (plain_of _ (by decide)) (by decide) hmid (by show ((25 + 6 * c + 6 : Nat) : Int) ≤ x2; omega) (by rw [abF_length]; exact h) rfl ab_fld
      rw [f]
      refine ⟨t', f', ?_⟩
      rw [abF_succ] at hh'
      exact hh'
    · rcases Int.lt_or_le x1 ((c + 1 : Nat) : Int) with hx | hx
      · rw [ih.2 hx]; rfl
      · obtain ⟨t, f, hh⟩ := ih.1 hx
        rw [f]
        exact head_many hh (plain_of _ (by decide)) (by decide) hmid (by show ((25 + 6 * c + 6 : Nat) : Int) ≤ x2; omega) (by rw [abF_length]; exact h)
theorem headB_right : ∀ k : Fin 256, (headB 64 (4 + ((k.val % 4 : Nat) : Int)) (256 + (k.val : Int))).right = true ∧ (headB 4096 (4 + ((k.val % 4 : Nat) : Int)) (256 + (k.val : Int))).right = true := by decide +kernel
theorem head_live {b : Bd} (h : b.right = true) : Q.new 0 b = .live (T.new 0 b) := by
  unfold Q.new
  rw [h]
  rfl
section
variable {x1 x2 : Int}
/-- Lines of fields, counted. -/
theorem heads_fields (hr : (headB 64 x1 x2).right = true) (h1 : 4 ≤ x1) (h2 : 256 ≤ x2) (c : Nat) (hc : c < 10) :
    if x1 < ((c + 1 : Nat) : Int) then (Q.read 0 (headB 64 x1 x2) (hostL ++ abL c ++ [13, 10])).err = 431 ∧ (Q.read 0 (headB 64 x1 x2) (hostL ++ abL c ++ [13, 10])).out.length = 0
    else (Q.read 0 (headB 64 x1 x2) (hostL ++ abL c ++ [13, 10])).err = 0 ∧ (Q.read 0 (headB 64 x1 x2) (hostL ++ abL c ++ [13, 10])).out.length = 1 := by
  have ih := ab_feed h1 h2 c hc
  unfold Q.read
  rw [head_live hr, feed_app]
  split
  · rename_i h
    rw [ih.2 h, feed_dead]
    exact ⟨rfl, rfl⟩
  · rename_i h
    obtain ⟨t, f, hh⟩ := ih.1 (by omega)
    obtain ⟨t', f', ho⟩ := head_end (x1 := x1) (x2 := x2) hh (by omega) (ab_frm ⟨c, hc⟩)
    rw [f, f']
    refine ⟨rfl, ?_⟩
    show t'.out.length = 1
    rw [ho]; rfl
end
/-- 'A:' and so many letters. -/
def axL (m : Nat) : List UInt8 := [65, 58] ++ List.replicate m 120
theorem axL_length (m : Nat) : (axL m).length = 2 + m := by unfold axL; simp; omega
theorem axL_plain (m : Nat) : ∀ c ∈ axL m, c ≠ 10 ∧ c ≠ 13 := by
  intro c hc
  unfold axL at hc
  rcases List.mem_append.1 hc with hc | hc
  · exact plain_of [65, 58] (by decide) c hc
  · rw [(List.mem_replicate.1 hc).2]; decide
theorem axL_ne (m : Nat) : axL m ≠ [] := by unfold axL; simp
theorem ax_fld : ∀ m : Fin 430, Fd.parse (Fd.clOf 0) (axL m.val) = some (some ([65], List.replicate m.val 120)) := by decide +kernel
theorem ax_frm (v : ByteArray) : Frm.decideV (Frm.clOf 0) true 65536 1 [hostF, (ba [65], v)] = (1, 0, 0) := by kernel_rfl
section
variable {x0 x1 x2 : Int}
/-- A line of a head, short enough in a head that is short enough. -/
theorem heads_ok (hr : (headB x0 x1 x2).right = true) (h0 : 64 ≤ x0) (h1 : 4 ≤ x1) (h2 : 256 ≤ x2) (m : Nat) (hm : m < 430) (hl : 2 + m ≤ Ln.mid x0) (hz : ((31 + m : Nat) : Int) ≤ x2) :
    (Q.read 0 (headB x0 x1 x2) (hostL ++ axL m ++ [13, 10, 13, 10])).err = 0 := by
  obtain ⟨t, f, hh⟩ := head_start h0 h1 h2
  obtain ⟨t', f', hh'⟩ := head_field (x1 := x1) (x2 := x2) hh (s := axL m) (axL_plain m) (axL_ne m) (by rw [axL_length]; exact hl) (by rw [axL_length]; omega) (by show ((1 + 1 : Nat) : Int) ≤ x1; omega) rfl (ax_fld ⟨m, hm⟩)
  obtain ⟨t'', f'', -⟩ := head_end (x1 := x1) (x2 := x2) hh' (by rw [axL_length]; omega) (ax_frm _)
  unfold Q.read
  rw [head_live hr, show hostL ++ axL m ++ [13, 10, 13, 10] = hostL ++ ((axL m ++ [13, 10]) ++ [13, 10]) by simp, feed_app, f, feed_app, f', f'']
  rfl
/-- A line of a head that is too long. -/
theorem heads_long (hr : (headB x0 x1 x2).right = true) (h0 : 64 ≤ x0) (h1 : 4 ≤ x1) (h2 : 256 ≤ x2) (m : Nat) (hl : Ln.mid x0 < 2 + m) (hz : ((26 + Ln.mid x0 : Nat) : Int) ≤ x2) :
    (Q.read 0 (headB x0 x1 x2) (hostL ++ axL m ++ [13, 10, 13, 10])).err = 431 := by
  obtain ⟨t, f, hh⟩ := head_start h0 h1 h2
  obtain ⟨k, hk⟩ : ∃ k, Ln.mid x0 = k := ⟨_, rfl⟩
  have hk64 : 64 ≤ k := by rw [← hk]; unfold Ln.mid; omega
  rw [hk] at hl hz
  have hlt : k < (axL m).length := by rw [axL_length]; omega
  have e : axL m = ((axL m).take k ++ [(axL m)[k]]) ++ (axL m).drop (k + 1) := by
    rw [← List.take_succ_eq_append_getElem hlt, List.take_append_drop]
  have hlen : ((axL m).take k).length = k := by rw [List.length_take]; omega
  have key : (Q.live t).feed 0 (headB x0 x1 x2) ((axL m).take k ++ [(axL m)[k]]) = .dead 431 [] := by
    refine (feed_long _ _ hh.open hh.buf (fun x hx => axL_plain m x ?_) ?_ ?_ (by rw [hh.st]; decide) ?_).trans ?_
    · rw [e]; exact List.mem_append_left _ hx
    · rw [hlen, hh.most, hk]
    · intro _; rw [hlen, hh.size]; show ((25 + (k + 1) : Nat) : Int) ≤ x2; omega
    · intro e0; rw [e0] at hlen; simp at hlen; omega
    · rw [hh.st, hh.out]; rfl
  unfold Q.read
  rw [head_live hr, List.append_assoc, feed_app, f, feed_app, e, feed_app, key, feed_dead, feed_dead]
  rfl
/-- A head that is too long. -/
theorem heads_over (hr : (headB x0 x1 x2).right = true) (h0 : 64 ≤ x0) (h1 : 4 ≤ x1) (h2 : 256 ≤ x2) (m : Nat) (hm : m < 430) (hl : 2 + m ≤ Ln.mid x0) (hz : x2 < ((31 + m : Nat) : Int)) :
    (Q.read 0 (headB x0 x1 x2) (hostL ++ axL m ++ [13, 10, 13, 10])).err = 431 := by
  obtain ⟨t, f, hh⟩ := head_start h0 h1 h2
  have hL := axL_length m
  suffices hs : (Q.live t).feed 0 (headB x0 x1 x2) (axL m ++ [13, 10, 13, 10]) = .dead 431 [] by
    unfold Q.read
    rw [head_live hr, List.append_assoc, feed_app, f, hs]
    rfl
  have over : ∀ (t' : T) (c : UInt8) (l : List UInt8), headed t'.st = true → x2 < ((t'.size + 1 : Nat) : Int) → t'.out = [] → (Q.live t').feed 0 (headB x0 x1 x2) (c :: l) = .dead 431 [] := by
    intro t' c l a1 a2 a3
    show (T.take 0 (headB x0 x1 x2) t' c).feed 0 (headB x0 x1 x2) l = _
    rw [take_over a1 a2, feed_dead, a3]
  have hst : headed t.st = true := by rw [hh.st]; rfl
  have hb0 : t.rd.clear.buf.length = 0 := by rw [hh.buf]; rfl
  by_cases hA : x2 < ((27 + m : Nat) : Int)
  · -- within the line
    obtain ⟨k, hk⟩ : ∃ k : Nat, x2 = 25 + (k : Int) := ⟨(x2 - 25).toNat, by omega⟩
    have hlt : k < (axL m).length := by omega
    have e : axL m = (axL m).take k ++ ((axL m)[k] :: (axL m).drop (k + 1)) := by
      rw [← List.drop_eq_getElem_cons hlt, List.take_append_drop]
    have hlen : ((axL m).take k).length = k := by rw [List.length_take]; omega
    have hp := feed_plain (p := 0) (b := headB x0 x1 x2) ((axL m).take k) t (by intro e0; rw [e0] at hlen; simp at hlen; omega) hh.open (fun x hx => axL_plain m x (List.mem_of_mem_take hx)) (by rw [hb0, hlen, hh.most]; omega) (by intro _; rw [hlen, hh.size]; show ((25 + k : Nat) : Int) ≤ x2; omega)
    rw [e, List.append_assoc, feed_app, hp, List.cons_append]
    refine over _ _ _ hst ?_ hh.out
    show x2 < (((if headed t.st = true then t.size + ((axL m).take k).length else t.size) + 1 : Nat) : Int)
    rw [if_pos hst, hlen, hh.size]; omega
  · have hp := feed_plain (p := 0) (b := headB x0 x1 x2) (axL m) t (axL_ne m) hh.open (axL_plain m) (by rw [hb0, hL, hh.most]; omega) (by intro _; rw [hL, hh.size]; show ((25 + (2 + m) : Nat) : Int) ≤ x2; omega)
    by_cases hB : x2 < ((28 + m : Nat) : Int)
    · rw [feed_app, hp]
      refine over _ _ _ hst ?_ hh.out
      show x2 < (((if headed t.st = true then t.size + (axL m).length else t.size) + 1 : Nat) : Int)
      rw [if_pos hst, hL, hh.size]; omega
    · by_cases hC : x2 < ((29 + m : Nat) : Int)
      · obtain ⟨t1, ht1⟩ : ∃ t1, t.went { t.rd with buf := t.rd.clear.buf ++ axL m, last := 0, pend := false } (axL m).length = t1 := ⟨_, rfl⟩
        have hz1 : t1.size = 27 + m := by
          rw [← ht1]
          show (if headed t.st = true then t.size + (axL m).length else t.size) = _
          rw [if_pos hst, hL, hh.size]; omega
        have hst1 : headed t1.st = true := by rw [← ht1]; exact hst
        have hc := take_cr (p := 0) (b := headB x0 x1 x2) (t := t1) (by rw [← ht1]; exact went_open hh.open.st rfl rfl _) (by intro _; rw [hz1]; show ((27 + m + 1 : Nat) : Int) ≤ x2; omega)
        rw [feed_app, hp, ht1]
        show ((T.take 0 (headB x0 x1 x2) t1 13).feed 0 (headB x0 x1 x2) (10 :: [13, 10])) = _
        rw [hc]
        refine over _ _ _ hst1 ?_ (by rw [← ht1]; exact hh.out)
        show x2 < (((if headed t1.st = true then t1.size + 1 else t1.size) + 1 : Nat) : Int)
        rw [if_pos hst1, hz1]; omega
      · obtain ⟨t', f', hh'⟩ := head_field (x1 := x1) (x2 := x2) hh (s := axL m) (axL_plain m) (axL_ne m) (by rw [hL]; exact hl) (by rw [hL]; omega) (by show ((1 + 1 : Nat) : Int) ≤ x1; omega) rfl (ax_fld ⟨m, hm⟩)
        have hst' : headed t'.st = true := by rw [hh'.st]; rfl
        have hz' : t'.size = 29 + m := by rw [hh'.size, hL]; omega
        rw [show axL m ++ [13, 10, 13, 10] = (axL m ++ [13, 10]) ++ (13 :: [10]) by simp, feed_app, f']
        by_cases hD : x2 < ((30 + m : Nat) : Int)
        · exact over _ _ _ hst' (by rw [hz']; omega) hh'.out
        · have hc := take_cr (p := 0) (b := headB x0 x1 x2) (t := t') hh'.open (by intro _; rw [hz']; show ((29 + m + 1 : Nat) : Int) ≤ x2; omega)
          show ((T.take 0 (headB x0 x1 x2) t' 13).feed 0 (headB x0 x1 x2) (10 :: [])) = _
          rw [hc]
          refine over _ _ _ hst' ?_ hh'.out
          show x2 < (((if headed t'.st = true then t'.size + 1 else t'.size) + 1 : Nat) : Int)
          rw [if_pos hst', hz']; omega
end
end Go.Proofs.YtibnobdbmojjhaaGreatDoor.Pg
