package number

import (
	"math"
	"math/big"
	"strconv"
	"strings"
	"testing"

	"parallax/api"
)

// reader: one of the calls that read, and what the chapter says of it.
type reader struct {
	name   string
	read   func(string, int) (int, api.Errno)
	base   int
	digits string
}

func readers() []reader {
	return []reader{
		{"Dec", Dec, 10, "0123456789"},
		{"Hex", Hex, 16, "0123456789abcdefABCDEF"},
	}
}

// want: what r answers of s, by numbers that have no end.
func (r reader) want(s string, most int) (int, api.Errno) {
	if s == "" || strings.Trim(s, r.digits) != "" {
		return 0, api.ErrNumber
	}
	n, _ := new(big.Int).SetString(s, r.base)
	if n.Cmp(big.NewInt(int64(max(most, 0)))) > 0 {
		return 0, api.ErrLong
	}
	return int(n.Int64()), api.OK
}

func (r reader) check(t *testing.T, promise, s string, most int) {
	t.Helper()
	want, wantErr := r.want(s, most)
	if got, err := r.read(s, most); got != want || err != wantErr {
		t.Errorf("%s: %s(%q, %d): %d, %d, want %d, %d", promise, r.name, s, most, got, err, want, wantErr)
	}
}

// P2.1: the table's numbers of the errors.
func TestErrorNumbers(t *testing.T) {
	if api.ErrNumber != 22 || api.ErrLong != 23 || api.OK != 0 {
		t.Errorf("P2.1: %d, %d, %d", api.ErrNumber, api.ErrLong, api.OK)
	}
}

// P2.1: digits are a number, written out.
func TestReadNumbers(t *testing.T) {
	cases := []struct {
		r    string
		s    string
		most int
		want int
		err  api.Errno
	}{
		{"Dec", "007", 9, 7, api.OK},
		{"Dec", "0", 0, 0, api.OK},
		{"Dec", "000", 0, 0, api.OK},
		{"Dec", "10", 10, 10, api.OK},
		{"Dec", "11", 10, 0, api.ErrLong},
		{"Dec", "0010", 10, 10, api.OK},
		{"Dec", "0011", 10, 0, api.ErrLong},
		{"Dec", "100", 99, 0, api.ErrLong},
		{"Dec", "1234567890", 1 << 40, 1234567890, api.OK},
		{"Dec", "1f", 99, 0, api.ErrNumber},
		{"Dec", "F", 99, 0, api.ErrNumber},
		{"Hex", "007", 9, 7, api.OK},
		{"Hex", "0", 0, 0, api.OK},
		{"Hex", "10", 16, 16, api.OK},
		{"Hex", "10", 15, 0, api.ErrLong},
		{"Hex", "00fF", 255, 255, api.OK},
		{"Hex", "Ff", 254, 0, api.ErrLong},
		{"Hex", "aBcDeF", 1 << 40, 0xabcdef, api.OK},
		{"Hex", "1g", 99, 0, api.ErrNumber},
		{"Hex", "0x1", 99, 0, api.ErrNumber},
		{"Hex", "0X1", 99, 0, api.ErrNumber},
	}
	for _, c := range cases {
		read := Dec
		if c.r == "Hex" {
			read = Hex
		}
		if got, err := read(c.s, c.most); got != c.want || err != c.err {
			t.Errorf("P2.1: %s(%q, %d): %d, %d, want %d, %d", c.r, c.s, c.most, got, err, c.want, c.err)
		}
	}
}

// P2.1: each byte, alone and beside digits: it is a digit, or it is no number.
func TestReadEachByte(t *testing.T) {
	for _, r := range readers() {
		for i := range 256 {
			c := string([]byte{byte(i)})
			for _, s := range []string{c, c + "1", "1" + c, "1" + c + "1", "0" + c, c + "0"} {
				r.check(t, "P2.1", s, 1<<20)
				r.check(t, "P2.1", s, 0)
			}
		}
	}
}

// P2.1: what is no number is none, whatever it may look like to others.
func TestReadNoNumbers(t *testing.T) {
	texts := []string{
		"", " ", "+1", "-1", "-0", "+", "-", " 1", "1 ", "\t1", "1\n", "1\r\n", "1 1",
		"1,1", "1.0", "1e1 ", "1_000", "0x", "0x1", "0o7", "0b2g", "1\x00", "\x001",
		"\u0661", "\uff11", "\u00b2", "\xff", "1\x80", "g", "1h", "ten",
	}
	for _, r := range readers() {
		for _, s := range texts {
			for _, most := range []int{math.MinInt, -1, 0, 1, 99, math.MaxInt} {
				if n, err := r.read(s, most); n != 0 || err != api.ErrNumber {
					t.Errorf("P2.1: %s(%q, %d): %d, %d", r.name, s, most, n, err)
				}
			}
		}
	}
}

// P2.1: ErrNumber is named ahead of ErrLong, wherever the wrong byte stands.
func TestNoNumberAheadOfTooBig(t *testing.T) {
	nines := strings.Repeat("9", 100)
	for _, r := range readers() {
		for _, s := range []string{"99999x", nines + "x", "x" + nines, nines + "x" + nines, "000" + nines + " "} {
			for _, most := range []int{-1, 0, 5, math.MaxInt} {
				if n, err := r.read(s, most); n != 0 || err != api.ErrNumber {
					t.Errorf("P2.1: %s(%q, %d): %d, %d", r.name, s, most, n, err)
				}
			}
		}
	}
}

// P2.1: all small numbers against all small bounds, those below 0 (as 0) included.
func TestReadSmallNumbers(t *testing.T) {
	for _, r := range readers() {
		for n := range 300 {
			s := strconv.FormatInt(int64(n), r.base)
			for most := -3; most < 300; most++ {
				r.check(t, "P2.1", s, most)
			}
			r.check(t, "P2.1", strings.ToUpper(s), n)
			r.check(t, "P2.1", "00"+s, n)
		}
		for _, most := range []int{-1, -10, math.MinInt + 1, math.MinInt} {
			r.check(t, "P2.1", "0", most)
			r.check(t, "P2.1", "00", most)
			r.check(t, "P2.1", "1", most)
			r.check(t, "P2.1", "9", most)
		}
	}
}

// P2.1: noughts ahead may be of any number. A text so long shows, too, that how deep a call goes doesn't hang on the text: the stack would not bear it.
func TestManyNoughts(t *testing.T) {
	noughts := strings.Repeat("0", 1<<24)
	for _, r := range readers() {
		for _, c := range []struct {
			behind string
			most   int
			want   int
			err    api.Errno
		}{{"", 0, 0, api.OK}, {"5", 5, 5, api.OK}, {"6", 5, 0, api.ErrLong}, {"x", 5, 0, api.ErrNumber}} {
			if n, err := r.read(noughts+c.behind, c.most); n != c.want || err != c.err {
				t.Errorf("P2.1: %s of many noughts and %q: %d, %d", r.name, c.behind, n, err)
			}
		}
	}
}

// P2.2: no number goes round: a longer text never answers a number again.
func TestLongNumbers(t *testing.T) {
	for _, r := range readers() {
		for _, digit := range []string{"1", "8", "9"} {
			for length := 1; length <= 200; length++ {
				r.check(t, "P2.2", strings.Repeat(digit, length), math.MaxInt)
				r.check(t, "P2.2", "1"+strings.Repeat("0", length), math.MaxInt)
			}
		}
		if n, err := r.read(strings.Repeat("9", 1<<24), math.MaxInt); n != 0 || err != api.ErrLong {
			t.Errorf("P2.2: %s of many nines: %d, %d", r.name, n, err)
		}
	}
}

// P2.2: at the highest bounds, and at powers of two that a sum could go round at, each number near them.
func TestEdgesOfInt(t *testing.T) {
	for _, r := range readers() {
		for bit := range uint(68) {
			for by := int64(-20); by <= 20; by++ {
				n := new(big.Int).Lsh(big.NewInt(1), bit)
				n.Add(n, big.NewInt(by))
				if n.Sign() < 0 {
					continue
				}
				s := n.Text(r.base)
				r.check(t, "P2.2", s, math.MaxInt)
				if n.IsInt64() {
					most := int(n.Int64())
					r.check(t, "P2.2", s, most)
					r.check(t, "P2.2", s, most-1)
					r.check(t, "P2.2", s+"0", most)
				}
			}
		}
		for less := range 40 {
			r.check(t, "P2.2", strconv.FormatInt(math.MaxInt, r.base), math.MaxInt-less)
		}
	}
}

// P2.1: Put and PutHex, written out.
func TestPut(t *testing.T) {
	cases := []struct {
		n        int
		dec, hex string
	}{
		{0, "0", "0"}, {1, "1", "1"}, {9, "9", "9"}, {10, "10", "a"}, {15, "15", "f"},
		{16, "16", "10"}, {99, "99", "63"}, {100, "100", "64"}, {160, "160", "a0"},
		{255, "255", "ff"}, {256, "256", "100"}, {4096, "4096", "1000"},
		{0xabcdef, "11259375", "abcdef"}, {math.MaxInt32, "2147483647", "7fffffff"},
		{math.MaxInt, "9223372036854775807", "7fffffffffffffff"},
		{-1, "0", "0"}, {-10, "0", "0"}, {math.MinInt + 1, "0", "0"}, {math.MinInt, "0", "0"},
	}
	for _, c := range cases {
		if dec, hex := Put(c.n), PutHex(c.n); dec != c.dec || hex != c.hex {
			t.Errorf("P2.1: Put(%d): %q, %q, want %q, %q", c.n, dec, hex, c.dec, c.hex)
		}
	}
}

// P2.2: what is put is read again as the same number, and one less isn't enough for it.
func TestPutAndReadAgain(t *testing.T) {
	var numbers []int
	for n := range 5000 {
		numbers = append(numbers, n, math.MaxInt-n)
	}
	for n := 1; n > 0; n *= 2 {
		numbers = append(numbers, n-1, n, n+1)
	}
	for _, n := range numbers {
		dec, hex := Put(n), PutHex(n)
		if dec != strconv.Itoa(n) || hex != strconv.FormatInt(int64(n), 16) {
			t.Errorf("P2.1: Put(%d): %q, %q", n, dec, hex)
		}
		if got, err := Dec(dec, n); got != n || err != api.OK {
			t.Errorf("P2.2: Dec(Put(%d)): %d, %d", n, got, err)
		}
		if got, err := Hex(hex, n); got != n || err != api.OK {
			t.Errorf("P2.2: Hex(PutHex(%d)): %d, %d", n, got, err)
		}
		if n == 0 {
			continue
		}
		if got, err := Dec(dec, n-1); got != 0 || err != api.ErrLong {
			t.Errorf("P2.2: Dec(Put(%d)) up to one less: %d, %d", n, got, err)
		}
		if got, err := Hex(hex, n-1); got != 0 || err != api.ErrLong {
			t.Errorf("P2.2: Hex(PutHex(%d)) up to one less: %d, %d", n, got, err)
		}
	}
}
