package octet

import (
	"slices"
	"strings"
	"testing"
)

const (
	digits  = "0123456789"
	letters = "abcdefghijklmnopqrstuvwxyzABCDEFGHIJKLMNOPQRSTUVWXYZ"
	tokens  = digits + letters + "!#$%&'*+-.^_`|~"
)

// bytesIn answers the bytes from first to last as a text.
func bytesIn(first, last int) string {
	var b []byte
	for i := first; i <= last; i++ {
		b = append(b, byte(i))
	}
	return string(b)
}

// kindsWanted: which bytes each question answers true of, written out from the chapter.
func kindsWanted() []struct {
	name string
	kind int // of All; 0: none
	is   func(byte) bool
	want string
} {
	visible := bytesIn(0x21, 0x7e)
	isHex := func(c byte) bool { _, ok := Hex(c); return ok }
	return []struct {
		name string
		kind int
		is   func(byte) bool
		want string
	}{
		{"Token", IsToken, Token, tokens},
		{"Visible", IsVisible, Visible, visible},
		{"Blank", IsBlank, Blank, " \t"},
		{"Control", 0, Control, bytesIn(0, 0x1f) + "\x7f"},
		{"Digit", IsDigit, Digit, digits},
		{"Hex", IsHex, isHex, digits + "abcdefABCDEF"},
		{"Text", IsText, Text, visible + " \t" + bytesIn(0x80, 0xff)},
	}
}

// P1.1: each question, of each byte.
func TestKindsOfEachByte(t *testing.T) {
	for _, k := range kindsWanted() {
		for i := range 256 {
			c := byte(i)
			want := strings.IndexByte(k.want, c) >= 0
			if got := k.is(c); got != want {
				t.Errorf("P1.1: %s(%#02x): %v, want %v", k.name, c, got, want)
			}
		}
	}
}

// P1.1: the bytes that stand right inside and right outside of a kind.
func TestEdgesOfKinds(t *testing.T) {
	edges := []struct {
		name    string
		is      func(byte) bool
		in, out string
	}{
		{"Token", Token, "09azAZ!#'*+-.^_`|~", "/:@[{\"(),;<=>?\\]} \t\x00\x7f\x80\xff"},
		{"Visible", Visible, "\x21\x7e", "\x20\x7f\x80\xff"},
		{"Blank", Blank, " \t", "\x00\n\v\f\r\x08\x1f\x21\x85\xa0"},
		{"Control", Control, "\x00\t\n\r\x1f\x7f", "\x20\x7e\x80\x9f\xff"},
		{"Digit", Digit, "09", "/:\xb2\xb3\xb9"},
		{"Text", Text, " \t\x21\x7e\x80\xff", "\x00\x08\n\v\r\x1f\x7f"},
	}
	for _, e := range edges {
		for i := range len(e.in) {
			if !e.is(e.in[i]) {
				t.Errorf("P1.1: %s(%#02x): false", e.name, e.in[i])
			}
		}
		for i := range len(e.out) {
			if e.is(e.out[i]) {
				t.Errorf("P1.1: %s(%#02x): true", e.name, e.out[i])
			}
		}
	}
}

// P1.1: the value of a hexadecimal digit; 0, false of all others.
func TestHexValue(t *testing.T) {
	want := map[byte]int{}
	for i, c := range []byte("0123456789abcdef") {
		want[c] = i
	}
	for i, c := range []byte("ABCDEF") {
		want[c] = i + 10
	}
	for i := range 256 {
		c := byte(i)
		n, ok := want[c]
		if got, is := Hex(c); got != n || is != ok {
			t.Errorf("P1.1: Hex(%#02x): %d, %v, want %d, %v", c, got, is, n, ok)
		}
	}
}

// P1.1: All of one kind is the kind's own question, wherever the byte stands.
func TestAllOfOneKind(t *testing.T) {
	for _, k := range kindsWanted() {
		if k.kind == 0 {
			continue
		}
		if !All(k.want, k.kind) {
			t.Errorf("P1.1: All of every byte of %s: false", k.name)
		}
		good := k.want[:1]
		for i := range 256 {
			c := string([]byte{byte(i)})
			want := strings.Contains(k.want, c)
			for _, s := range []string{c, c + good, good + c, good + c + good} {
				if All(s, k.kind) != want {
					t.Errorf("P1.1: All(%q, %s): %v", s, k.name, !want)
				}
			}
		}
	}
}

// P1.1: of several kinds each byte may be of another one, in any order.
func TestAllOfSeveralKinds(t *testing.T) {
	cases := []struct {
		s     string
		kinds []int
		want  bool
	}{
		{"a b\t9", []int{IsToken, IsBlank}, true},
		{"a b\t9", []int{IsBlank, IsToken}, true},
		{"a b\t9", []int{IsToken}, false},
		{"a b\t9", []int{IsBlank}, false},
		{"a b\t/", []int{IsToken, IsBlank}, false},
		{"7 f", []int{IsDigit, IsBlank}, false},
		{"7 f", []int{IsDigit, IsBlank, IsHex}, true},
		{"7 g", []int{IsDigit, IsBlank, IsHex}, false},
		{"77", []int{IsDigit, IsDigit}, true},
		{"{é", []int{IsVisible, IsText}, true},
		{"{é", []int{IsVisible, IsToken, IsBlank, IsDigit, IsHex}, false},
		{"\xff\xc3", []int{IsText}, true},
		{"a\nb", []int{IsToken, IsVisible, IsBlank, IsDigit, IsHex, IsText}, false},
		{"a\x7fb", []int{IsToken, IsVisible, IsBlank, IsDigit, IsHex, IsText}, false},
		{"a\x00", []int{IsToken, IsVisible, IsBlank, IsDigit, IsHex, IsText}, false},
	}
	for _, c := range cases {
		if got := All(c.s, c.kinds...); got != c.want {
			t.Errorf("P1.1: All(%q, %v): %v", c.s, c.kinds, got)
		}
	}
}

// P1.1: an empty text is of any kinds; kinds that there aren't, or none, are of no byte.
func TestAllOfNothing(t *testing.T) {
	least, most := -1<<63, 1<<63-1
	none := [][]int{nil, {}, {0}, {-1}, {7}, {least}, {most}, {0, 7, -1}}
	for _, kinds := range none {
		if !All("", kinds...) {
			t.Errorf("P1.1: All of nothing, %v: false", kinds)
		}
		for i := range 256 {
			if s := string([]byte{byte(i)}); All(s, kinds...) {
				t.Errorf("P1.1: All(%q, %v): true", s, kinds)
			}
		}
		if with := append([]int{IsDigit}, kinds...); !All("12", with...) || All("1a", with...) {
			t.Errorf("P1.1: All, %v", with)
		}
	}
	if !All("", IsDigit) || !All("", IsText, IsToken) {
		t.Error("P1.1: All of nothing: false")
	}
}

// P1.1: the kinds' numbers.
func TestKindNumbers(t *testing.T) {
	got := []int{IsToken, IsVisible, IsBlank, IsDigit, IsHex, IsText}
	if !slices.Equal(got, []int{1, 2, 3, 4, 5, 6}) {
		t.Errorf("P1.1: kinds: %v", got)
	}
}

// P1.2: a byte's kind hangs on nothing but the byte: not on what was asked before, nor on its neighbours, nor on whether bytes together make a rune.
func TestByteIsWhatItIs(t *testing.T) {
	for _, k := range kindsWanted() {
		for i := range 256 {
			before := k.is(byte(i))
			for j := range 256 {
				pair := string([]byte{byte(i), byte(j)})
				if k.kind != 0 && All(pair, k.kind) != (k.is(byte(i)) && k.is(byte(j))) {
					t.Errorf("P1.2: All(%q, %s)", pair, k.name)
				}
			}
			if k.is(byte(i)) != before {
				t.Errorf("P1.2: %s(%#02x) asked again: %v", k.name, i, !before)
			}
		}
	}
}

// P1.2: asking changes nothing of what is handed in, the spare room behind it included.
func TestAllKeepsItsArguments(t *testing.T) {
	room := []int{IsHex, 9, IsDigit, 42, 43}
	All("a1 ", room[:3]...)
	if !slices.Equal(room, []int{IsHex, 9, IsDigit, 42, 43}) {
		t.Errorf("P1.2: kinds changed: %v", room)
	}
}
