package wire_test

import (
	"errors"
	"fmt"
	"math"
	"strings"
	"testing"

	"tontine/api"
	"tontine/wire"
)

func num(n int) string {
	w := wire.New()
	w.Num(n)
	return w.String()
}

func bits(n uint64) string {
	w := wire.New()
	w.Bits(n)
	return w.String()
}

// failed holds an error against the number that is asked for, 0 of none.
func failed(t *testing.T, what string, err error, want api.Errno) {
	t.Helper()
	if want == 0 && err == nil {
		return
	}
	var got api.Errno
	if want == 0 || !errors.As(err, &got) || got != want || !errors.Is(err, want) {
		t.Errorf("%s: error %v, want %d", what, err, int(want))
	}
}

// told is P2.2's Num at the front of s: the number, how many bytes it takes,
// and the error. The bytes are cut first, then weighed.
func told(s string, most int) (int, int, api.Errno) {
	size := 0
	for size < len(s) && s[size] >= 128 {
		size++
	}
	switch {
	case size >= 4:
		return 0, 0, api.ErrForm
	case size == len(s):
		return 0, 0, api.ErrShort
	case size > 0 && s[size] == 0:
		return 0, 0, api.ErrForm
	}
	n := int(s[size])
	for at := size - 1; at >= 0; at-- {
		n = n*128 + int(s[at]) - 128
	}
	if n-1 > most {
		return 0, 0, api.ErrLarge
	}
	return n - 1, size + 1, 0
}

// P2.1: what Num writes, at the ends of each length, and held from -1 to MaxArg.
func TestNumWrites(t *testing.T) {
	for _, row := range []struct {
		n    int
		want string
	}{
		{-1, "\x00"},
		{0, "\x01"},
		{1, "\x02"},
		{9, "\x0a"},
		{125, "\x7e"},
		{126, "\x7f"},
		{127, "\x80\x01"},
		{128, "\x81\x01"},
		{254, "\xff\x01"},
		{255, "\x80\x02"},
		{400, "\x91\x03"},
		{16381, "\xfe\x7f"},
		{16382, "\xff\x7f"},
		{16383, "\x80\x80\x01"},
		{16384, "\x81\x80\x01"},
		{1<<20 - 2, "\xff\xff\x3f"},
		{1<<20 - 1, "\x80\x80\x40"},
		{1 << 20, "\x81\x80\x40"},
		{1<<20 + 1, "\x81\x80\x40"},
		{1 << 21, "\x81\x80\x40"},
		{math.MaxInt32, "\x81\x80\x40"},
		{math.MaxInt - 1, "\x81\x80\x40"},
		{math.MaxInt, "\x81\x80\x40"},
		{-2, "\x00"},
		{-128, "\x00"},
		{math.MinInt32, "\x00"},
		{math.MinInt + 1, "\x00"},
		{math.MinInt, "\x00"},
	} {
		if got := num(row.n); got != row.want {
			t.Errorf("P2.1: Num(%d): %q, want %q", row.n, got, row.want)
		}
	}
}

// P2.1: each number there is: one more than it in base 128, the lowest digit
// first, in as few bytes as may be.
func TestNumWritesEach(t *testing.T) {
	for n := -1; n <= api.MaxArg; n++ {
		got, size := num(n), 1
		if n+1 >= 128 {
			size = 2
		}
		if n+1 >= 128*128 {
			size = 3
		}
		sum, worth := 0, 1
		for at := range len(got) {
			if (got[at] >= 128) != (at < len(got)-1) {
				t.Fatalf("P2.1: Num(%d): %q", n, got)
			}
			sum += int(got[at]) % 128 * worth
			worth *= 128
		}
		if sum != n+1 || len(got) != size {
			t.Fatalf("P2.1: Num(%d): %q tells %d", n, got, sum-1)
		}
	}
}

// P2.1: eight bytes, the lowest first, each bit by itself and all of them.
func TestBitsWrites(t *testing.T) {
	for _, row := range []struct {
		n    uint64
		want string
	}{
		{0, "\x00\x00\x00\x00\x00\x00\x00\x00"},
		{1, "\x01\x00\x00\x00\x00\x00\x00\x00"},
		{0x0807060504030201, "\x01\x02\x03\x04\x05\x06\x07\x08"},
		{0xfffefdfcfbfaf9f8, "\xf8\xf9\xfa\xfb\xfc\xfd\xfe\xff"},
		{math.MaxUint64, "\xff\xff\xff\xff\xff\xff\xff\xff"},
	} {
		if got := bits(row.n); got != row.want {
			t.Errorf("P2.1: Bits(%x): %q, want %q", row.n, got, row.want)
		}
	}
	for at := range 64 {
		want := []byte("\x00\x00\x00\x00\x00\x00\x00\x00")
		want[at/8] = 1 << (at % 8)
		if got := bits(1 << at); got != string(want) {
			t.Errorf("P2.1: Bits of bit %d: %q", at, got)
		}
	}
}

// P2.1: one behind the other; what was told stays, and each Writer has its own.
func TestWriterGoesOn(t *testing.T) {
	w, other := wire.New(), wire.New()
	if w.String() != "" {
		t.Errorf("P2.1: nothing written: %q", w.String())
	}
	var was []string
	want := ""
	for n := range 100 {
		w.Num(n * 100)
		w.Bits(uint64(n))
		other.Num(-1)
		want += num(n*100) + bits(uint64(n))
		was = append(was, w.String())
		if w.String() != want {
			t.Fatalf("P2.1: after %d: %q, want %q", n, w.String(), want)
		}
	}
	for n, s := range was {
		if !strings.HasPrefix(want, s) || len(s) < n {
			t.Errorf("P2.1: what was told after %d: %q", n, s)
		}
	}
	if other.String() != strings.Repeat("\x00", 100) {
		t.Errorf("P2.1: another one: %q", other.String())
	}
}

// P2.2: a number that is right, whatever is behind it, at most and one below.
func TestNumTakes(t *testing.T) {
	for _, row := range []struct {
		s    string
		want int
	}{
		{"\x00", -1},
		{"\x01", 0},
		{"\x7f", 126},
		{"\x80\x01", 127},
		{"\xff\x7f", 16382},
		{"\x80\x80\x01", 16383},
		{"\x81\x80\x40", 1 << 20},
		{"\x82\x80\x40", 1<<20 + 1},
		{"\xff\xff\x7f", 1<<21 - 2},
		{"\x80\x80\x80\x01", 1<<21 - 1},
		{"\xff\xff\xff\x7f", 1<<28 - 2},
	} {
		for _, behind := range []string{"", "\x00", "z", "\x80", "\xff\xff\xff\xff\xff"} {
			for _, most := range []int{row.want, row.want + 1, math.MaxInt} {
				r := wire.Of(row.s + behind)
				if n := r.Num(most); n != row.want || r.Err() != nil || r.Left() != len(behind) {
					t.Errorf("P2.2: %q behind %q, Num(%d): %d, %v, %d left", behind, row.s, most, n, r.Err(), r.Left())
				}
			}
			for _, most := range []int{row.want - 1, -2, math.MinInt} {
				stuck(t, row.s+behind, most, api.ErrLarge)
			}
		}
	}
}

// stuck tells whether Num fails as it should, at the front of s, and nothing
// is taken any more.
func stuck(t *testing.T, s string, most int, want api.Errno) {
	t.Helper()
	r := wire.Of(s)
	if n := r.Num(most); n != 0 || r.Left() != len(s) {
		t.Errorf("P2.2: %q, Num(%d): %d, %d left", s, most, n, r.Left())
	}
	failed(t, fmt.Sprintf("P2.2: %q, Num(%d)", s, most), r.Err(), want)
	stays(t, r, len(s), want)
}

// stays asks all of a Reader that has failed, over and over.
func stays(t *testing.T, r *wire.Reader, left int, want api.Errno) {
	t.Helper()
	for _, most := range []int{math.MaxInt, 0, -1, -2, math.MinInt} {
		if n := r.Num(most); n != 0 {
			t.Errorf("P2.2: after error %d, Num(%d): %d", int(want), most, n)
		}
		if n := r.Bits(); n != 0 {
			t.Errorf("P2.2: after error %d, Bits: %x", int(want), n)
		}
		if n := r.Left(); n != left {
			t.Errorf("P2.2: after error %d: %d left, want %d", int(want), n, left)
		}
		failed(t, "P2.2: it stays", r.Err(), want)
	}
}

// P2.2: byte by byte, the first that is wrong; ErrLarge behind all others.
func TestNumWrong(t *testing.T) {
	for _, row := range []struct {
		s    string
		want api.Errno
	}{
		{"", api.ErrShort},
		{"\x80", api.ErrShort},
		{"\xff", api.ErrShort},
		{"\x80\x80", api.ErrShort},
		{"\xff\xff\xff", api.ErrShort},
		{"\x80\x00", api.ErrForm},
		{"\xff\x00", api.ErrForm},
		{"\x80\x80\x00", api.ErrForm},
		{"\xff\xff\xff\x00", api.ErrForm},
		{"\x80\x80\x80\x80", api.ErrForm},
		{"\xff\xff\xff\xff", api.ErrForm},
		{"\x80\x80\x80\x80\x00", api.ErrForm},
		{"\xff\xff\xff\xff\x7f", api.ErrForm},
		{"\x80\x00\x80", api.ErrForm},
		{"\x80\x00\x01\x01\x01\x01\x01\x01", api.ErrForm},
	} {
		for _, most := range []int{math.MinInt, -2, -1, 0, 9, api.MaxArg, math.MaxInt} {
			stuck(t, row.s, most, row.want)
		}
	}
}

// P2.2: whatever bytes, as the document cuts them.
func TestNumAny(t *testing.T) {
	for _, s := range each(5) {
		for _, most := range []int{math.MinInt, -2, -1, 0, 127, api.MaxArg, math.MaxInt} {
			want, size, e := told(s, most)
			if e != 0 {
				stuck(t, s, most, e)
				continue
			}
			r := wire.Of(s)
			if n := r.Num(most); n != want || r.Err() != nil || r.Left() != len(s)-size {
				t.Errorf("P2.2: %q, Num(%d): %d, %v, %d left", s, most, n, r.Err(), r.Left())
			}
		}
	}
}

// each gives all texts of up to so many bytes of those that lie at an edge.
func each(most int) []string {
	out := []string{""}
	for from, size := 0, 0; size < most; size++ {
		to := len(out)
		for _, s := range out[from:to] {
			for _, b := range []byte{0, 1, 63, 127, 128, 129, 255} {
				out = append(out, s+string([]byte{b}))
			}
		}
		from = to
	}
	return out
}

// P2.2: eight bytes are taken, the lowest first; fewer are ErrShort.
func TestBitsTakes(t *testing.T) {
	for _, n := range []uint64{0, 1, 0x0807060504030201, 0xf8f9fafbfcfdfeff, 1 << 63, math.MaxUint64} {
		whole := bits(n)
		for _, behind := range []string{"", "z", whole} {
			r := wire.Of(whole + behind)
			if got := r.Bits(); got != n || r.Err() != nil || r.Left() != len(behind) {
				t.Errorf("P2.2: Bits of %q: %x, %v, %d left", whole+behind, got, r.Err(), r.Left())
			}
		}
		for size := range 8 {
			r := wire.Of(whole[:size])
			if got := r.Bits(); got != 0 {
				t.Errorf("P2.2: Bits of %q: %x", whole[:size], got)
			}
			stays(t, r, size, api.ErrShort)
		}
	}
	for at := range 64 {
		if got := wire.Of(bits(1 << at)).Bits(); got != 1<<at {
			t.Errorf("P2.2: Bits of bit %d: %x", at, got)
		}
	}
}

// P2.2: what was taken ahead of an error isn't given back, what failed is.
func TestFailsLater(t *testing.T) {
	for _, row := range []struct {
		s    string
		want api.Errno
	}{
		{"", api.ErrShort},
		{"\x80", api.ErrShort},
		{"\x80\x00zz", api.ErrForm},
		{"\xff\xff\xff\xff\x01", api.ErrForm},
		{"\x05zz", api.ErrLarge},
	} {
		r := wire.Of(num(300) + bits(7) + row.s)
		if n, b := r.Num(300), r.Bits(); n != 300 || b != 7 || r.Err() != nil || r.Left() != len(row.s) {
			t.Errorf("P2.2: %d, %x, %v, %d left", n, b, r.Err(), r.Left())
		}
		if n := r.Num(3); n != 0 {
			t.Errorf("P2.2: %q, Num(3): %d", row.s, n)
		}
		stays(t, r, len(row.s), row.want)
	}
	r := wire.Of(num(300) + "1234567")
	if n, b := r.Num(300), r.Bits(); n != 300 || b != 0 {
		t.Errorf("P2.2: %d, %x", n, b)
	}
	stays(t, r, 7, api.ErrShort)
}

// P2.2: Readers of one text don't touch each other.
func TestReadersApart(t *testing.T) {
	s := num(5) + num(6)
	a, b := wire.Of(s), wire.Of(s)
	a.Num(0)
	if n, m := b.Num(5), b.Num(6); n != 5 || m != 6 || b.Err() != nil || b.Left() != 0 {
		t.Errorf("P2.2: %d, %d, %v, %d left", n, m, b.Err(), b.Left())
	}
	stays(t, a, 2, api.ErrLarge)
}

// P2.3: each number that can be written is told by what was written.
func TestThereAndBack(t *testing.T) {
	for n := -1; n <= api.MaxArg; n++ {
		r := wire.Of(num(n))
		if got := r.Num(n); got != n || r.Err() != nil || r.Left() != 0 {
			t.Fatalf("P2.3: %d: %d, %v, %d left", n, got, r.Err(), r.Left())
		}
	}
}

// P2.3: no number is told by bytes other than those that are written for it.
func TestOneWay(t *testing.T) {
	for _, s := range each(6) {
		r := wire.Of(s)
		n := r.Num(api.MaxArg)
		if r.Err() != nil {
			continue
		}
		if got := num(n); got != s[:len(s)-r.Left()] {
			t.Errorf("P2.3: %q tells %d, which is %q", s, n, got)
		}
	}
}

// P2.3: numbers and sets that stand one behind the other.
func TestMixed(t *testing.T) {
	w := wire.New()
	for n := -1; n < 40000; n += 37 {
		w.Num(n)
		w.Bits(uint64(n) * 0x9e3779b97f4a7c15)
		w.Num(-1)
	}
	r := wire.Of(w.String())
	for n := -1; n < 40000; n += 37 {
		if a, b, c := r.Num(api.MaxArg), r.Bits(), r.Num(-1); a != n || b != uint64(n)*0x9e3779b97f4a7c15 || c != -1 {
			t.Fatalf("P2.3: %d: %d, %x, %d", n, a, b, c)
		}
	}
	if r.Left() != 0 || r.Err() != nil {
		t.Errorf("P2.3: %d left, %v", r.Left(), r.Err())
	}
}

func Example() {
	w := wire.New()
	w.Num(300)
	w.Bits(5)
	r := wire.Of(w.String())
	fmt.Println(r.Left(), r.Num(api.MaxArg), r.Bits(), r.Left(), r.Err())
	r.Num(api.MaxArg)
	fmt.Println(errors.Is(r.Err(), api.ErrShort))
	// Output:
	// 10 300 5 0 <nil>
	// true
}
