package wire

import (
	"math"
	"math/rand"
	"strings"
	"sync"
	"testing"
)

// tape checks what a tape is after it was asked.
func tape(t *testing.T, what string, x *Tape, left string, bad bool) {
	t.Helper()
	if x.S != left || x.Bad != bad {
		t.Errorf("%s: the tape has %d bytes left, Bad %v, want %d, Bad %v", what, len(x.S), x.Bad, len(left), bad)
	}
	if want := left == "" && !bad; x.Done() != want {
		t.Errorf("%s: Done %v, want %v", what, !want, want)
	}
}

func randomText(r *rand.Rand, n int) string {
	b := make([]byte, n)
	r.Read(b)
	return string(b)
}

// P3.1: the lowest bits, the highest first, whatever stands above them.
func TestNumbers(t *testing.T) {
	for _, c := range []struct {
		n         int
		two, four string
	}{
		{0, "\x00\x00", "\x00\x00\x00\x00"},
		{1, "\x00\x01", "\x00\x00\x00\x01"},
		{255, "\x00\xff", "\x00\x00\x00\xff"},
		{256, "\x01\x00", "\x00\x00\x01\x00"},
		{258, "\x01\x02", "\x00\x00\x01\x02"},
		{0x1234, "\x12\x34", "\x00\x00\x12\x34"},
		{32768, "\x80\x00", "\x00\x00\x80\x00"},
		{65535, "\xff\xff", "\x00\x00\xff\xff"},
		{65536, "\x00\x00", "\x00\x01\x00\x00"},
		{65537, "\x00\x01", "\x00\x01\x00\x01"},
		{0x12345678, "\x56\x78", "\x12\x34\x56\x78"},
		{math.MaxInt32, "\xff\xff", "\x7f\xff\xff\xff"},
		{1 << 31, "\x00\x00", "\x80\x00\x00\x00"},
		{math.MaxUint32, "\xff\xff", "\xff\xff\xff\xff"},
		{1 << 32, "\x00\x00", "\x00\x00\x00\x00"},
		{1<<32 + 258, "\x01\x02", "\x00\x00\x01\x02"},
		{0x123456789abcdef0, "\xde\xf0", "\x9a\xbc\xde\xf0"},
		{math.MaxInt64, "\xff\xff", "\xff\xff\xff\xff"},
		{-1, "\xff\xff", "\xff\xff\xff\xff"},
		{-2, "\xff\xfe", "\xff\xff\xff\xfe"},
		{-256, "\xff\x00", "\xff\xff\xff\x00"},
		{-65536, "\x00\x00", "\xff\xff\x00\x00"},
		{-65537, "\xff\xff", "\xff\xfe\xff\xff"},
		{math.MinInt32, "\x00\x00", "\x80\x00\x00\x00"},
		{math.MinInt64, "\x00\x00", "\x00\x00\x00\x00"},
		{math.MinInt64 + 1, "\x00\x01", "\x00\x00\x00\x01"},
	} {
		if got := Two(c.n); got != c.two {
			t.Errorf("Two(%d): %q, want %q", c.n, got, c.two)
		}
		if got := Four(c.n); got != c.four {
			t.Errorf("Four(%d): %q, want %q", c.n, got, c.four)
		}
	}
}

// P3.1: a text's length, and the text; of more than 65535 bytes the first 65535.
func TestTexts(t *testing.T) {
	long := randomText(rand.New(rand.NewSource(3)), 140000)
	for _, c := range []struct {
		what, s, want string
	}{
		{"empty", "", "\x00\x00"},
		{"one byte", "a", "\x00\x01a"},
		{"two bytes", "ab", "\x00\x02ab"},
		{"noughts", "\x00\x00", "\x00\x02\x00\x00"},
		{"bytes that are no runes", "\xff\xfe\x80", "\x00\x03\xff\xfe\x80"},
		{"bytes, not runes, are counted", "żó", "\x00\x04żó"},
		{"255", long[:255], "\x00\xff" + long[:255]},
		{"256", long[:256], "\x01\x00" + long[:256]},
		{"1500", long[:1500], "\x05\xdc" + long[:1500]},
		{"65534", long[:65534], "\xff\xfe" + long[:65534]},
		{"65535", long[:65535], "\xff\xff" + long[:65535]},
		{"65536", long[:65536], "\xff\xff" + long[:65535]},
		{"65537", long[:65537], "\xff\xff" + long[:65535]},
		{"131072", long[:131072], "\xff\xff" + long[:65535]},
		{"140000", long, "\xff\xff" + long[:65535]},
	} {
		if got := Text(c.s); got != c.want {
			t.Errorf("%s: %d bytes, want %d", c.what, len(got), len(c.want))
		}
	}
	if cut := Text(strings.Repeat("a", 65534) + "ż"); cut != "\xff\xff"+strings.Repeat("a", 65534)+"\xc5" {
		t.Error("a text is to be cut among its bytes, not among its runes")
	}
}

// P3.2: numbers of two bytes, by what is on the tape and by what they may be.
func TestTapeTwo(t *testing.T) {
	for _, c := range []struct {
		what, s   string
		low, high int
		want      int
		left      string
		bad       bool
	}{
		{"the example", "\x01\x02", 0, 65535, 258, "", false},
		{"more behind it", "\x01\x02\x03", 0, 999, 258, "\x03", false},
		{"nought", "\x00\x00", 0, 0, 0, "", false},
		{"the greatest", "\xff\xff", 0, 65535, 65535, "", false},
		{"no sign", "\x80\x00", 0, 65535, 32768, "", false},
		{"just low", "\x00\x07", 7, 9, 7, "", false},
		{"between", "\x00\x08", 7, 9, 8, "", false},
		{"just high", "\x00\x09", 7, 9, 9, "", false},
		{"low is high", "\x00\x07", 7, 7, 7, "", false},
		{"any", "\x12\x34z", math.MinInt, math.MaxInt, 0x1234, "z", false},
		{"a low below nought", "\x00\x00", -5, 5, 0, "", false},
		{"below low", "\x00\x06", 7, 9, 0, "", true},
		{"above high", "\x00\x0a", 7, 9, 0, "", true},
		{"refused, with more behind it", "\x00\x0aabc", 7, 9, 0, "abc", true},
		{"low above high", "\x00\x08", 9, 7, 0, "", true},
		{"the ends the other way about", "\x00\x08", math.MaxInt, math.MinInt, 0, "", true},
		{"all below nought", "\x00\x00", math.MinInt, -1, 0, "", true},
		{"all above 65535", "\xff\xff", 65536, math.MaxInt, 0, "", true},
		{"65535 is not -1", "\xff\xff", -1, -1, 0, "", true},
		{"no byte", "", 0, 9, 0, "", true},
		{"one byte", "\x00", 0, 9, 0, "\x00", true},
		{"one byte, any number", "\x05", math.MinInt, math.MaxInt, 0, "\x05", true},
	} {
		x := &Tape{S: c.s}
		if got := x.Two(c.low, c.high); got != c.want {
			t.Errorf("%s: %d, want %d", c.what, got, c.want)
		}
		tape(t, c.what, x, c.left, c.bad)
	}
}

// P3.2: numbers of four bytes.
func TestTapeFour(t *testing.T) {
	for _, c := range []struct {
		what, s   string
		low, high int
		want      int
		left      string
		bad       bool
	}{
		{"258", "\x00\x00\x01\x02", 0, 999, 258, "", false},
		{"each byte at its place", "\x12\x34\x56\x78", 0, math.MaxInt32, 0x12345678, "", false},
		{"more behind it", "\x00\x01\x00\x00\x00\x02ab", 0, 1 << 20, 65536, "\x00\x02ab", false},
		{"nought", "\x00\x00\x00\x00", 0, 0, 0, "", false},
		{"the greatest", "\xff\xff\xff\xff", 0, math.MaxUint32, math.MaxUint32, "", false},
		{"no sign", "\x80\x00\x00\x00", 0, math.MaxInt, 1 << 31, "", false},
		{"just low", "\x00\x01\x00\x00", 65536, 65538, 65536, "", false},
		{"just high", "\x00\x01\x00\x02", 65536, 65538, 65538, "", false},
		{"any", "\x9a\xbc\xde\xf0z", math.MinInt, math.MaxInt, 0x9abcdef0, "z", false},
		{"below low", "\x00\x00\xff\xff", 65536, 65538, 0, "", true},
		{"above high", "\x00\x01\x00\x03", 65536, 65538, 0, "", true},
		{"refused, with more behind it", "\x00\x01\x00\x03abc", 65536, 65538, 0, "abc", true},
		{"low above high", "\x00\x01\x00\x01", 65538, 65536, 0, "", true},
		{"all above 32 bits", "\xff\xff\xff\xff", math.MaxUint32 + 1, math.MaxInt, 0, "", true},
		{"the greatest is not -1", "\xff\xff\xff\xff", math.MinInt, -1, 0, "", true},
		{"no byte", "", 0, 9, 0, "", true},
		{"one byte", "\x00", 0, 9, 0, "\x00", true},
		{"three bytes", "\x00\x00\x01", math.MinInt, math.MaxInt, 0, "\x00\x00\x01", true},
	} {
		x := &Tape{S: c.s}
		if got := x.Four(c.low, c.high); got != c.want {
			t.Errorf("%s: %d, want %d", c.what, got, c.want)
		}
		tape(t, c.what, x, c.left, c.bad)
	}
}

// P3.2: texts, by what is on the tape and by how long they may be.
func TestTapeText(t *testing.T) {
	long := strings.Repeat("l", 65535)
	for _, c := range []struct {
		what, s string
		most    int
		want    string
		left    string
		bad     bool
	}{
		{"two bytes", "\x00\x02ab", 2, "ab", "", false},
		{"more behind it", "\x00\x02abc", 2, "ab", "c", false},
		{"fewer than most", "\x00\x02ab", 3, "ab", "", false},
		{"of any length", "\x00\x02ab", math.MaxInt, "ab", "", false},
		{"empty", "\x00\x00", 0, "", "", false},
		{"empty, more behind it", "\x00\x00ab", 9, "", "ab", false},
		{"bytes that are no runes", "\x00\x02\xff\x00", 9, "\xff\x00", "", false},
		{"256", "\x01\x00" + long[:256] + "z", 256, long[:256], "z", false},
		{"the longest", "\xff\xff" + long + "z", 65535, long, "z", false},
		{"the longest, just there", "\xff\xff" + long, 70000, long, "", false},
		{"longer than most", "\x00\x02ab", 1, "", "ab", true},
		{"longer than none", "\x00\x01a", 0, "", "a", true},
		{"a most below nought", "\x00\x00", -1, "", "", true},
		{"the least most", "\x00\x01a", math.MinInt, "", "a", true},
		{"one byte missing", "\x00\x02a", 9, "", "a", true},
		{"all bytes missing", "\x00\x02", 9, "", "", true},
		{"the longest, one byte missing", "\xff\xff" + long[1:], 65535, "", long[1:], true},
		{"half a length", "\x00", 9, "", "\x00", true},
		{"no length", "", 9, "", "", true},
	} {
		x := &Tape{S: c.s}
		if got := x.Text(c.most); got != c.want {
			t.Errorf("%s: %d bytes, want %d", c.what, len(got), len(c.want))
		}
		tape(t, c.what, x, c.left, c.bad)
	}
}

// P3.2: marks that are there, and others.
func TestTapeMark(t *testing.T) {
	for _, c := range []struct {
		what, s, mark string
		left          string
		bad           bool
	}{
		{"just there", "OBJ1", "OBJ1", "", false},
		{"more behind it", "OBJ1OBJ1", "OBJ1", "OBJ1", false},
		{"the empty mark", "ab", "", "ab", false},
		{"the empty mark of an empty tape", "", "", "", false},
		{"noughts", "\x00\x00a", "\x00", "\x00a", false},
		{"bytes that are no runes", "\xff\xfea", "\xff\xfe", "a", false},
		{"another at its end", "OBJ2ab", "OBJ1", "ab", true},
		{"another at its beginning", "obj1", "Obj1", "", true},
		{"one that stands further on", "xOBJ1", "OBJ1", "1", true},
		{"one byte missing", "OBJ", "OBJ1", "OBJ", true},
		{"all bytes missing", "", "OBJ1", "", true},
	} {
		x := &Tape{S: c.s}
		x.Mark(c.mark)
		tape(t, c.what, x, c.left, c.bad)
	}
}

// P3.2: done is what isn't Bad, and has nothing left.
func TestTapeDone(t *testing.T) {
	for _, c := range []struct {
		x    Tape
		want bool
	}{
		{Tape{}, true},
		{Tape{S: "\x00"}, false},
		{Tape{S: "ab"}, false},
		{Tape{Bad: true}, false},
		{Tape{S: "ab", Bad: true}, false},
	} {
		x := c.x
		if got := x.Done(); got != c.want {
			t.Errorf("%+v: %v", c.x, got)
		}
		if x != c.x {
			t.Errorf("%+v: Done has made it %+v", c.x, x)
		}
	}
}

// askings are one each of all that reads, each one that a good tape with noughts could answer.
func askings() map[string]func(x *Tape) bool {
	return map[string]func(x *Tape) bool{
		"Two":            func(x *Tape) bool { return x.Two(math.MinInt, math.MaxInt) == 0 },
		"Two from 1":     func(x *Tape) bool { return x.Two(1, 9) == 0 },
		"Four":           func(x *Tape) bool { return x.Four(math.MinInt, math.MaxInt) == 0 },
		"Four from 1":    func(x *Tape) bool { return x.Four(1, 9) == 0 },
		"Text":           func(x *Tape) bool { return x.Text(math.MaxInt) == "" },
		"Text of -1":     func(x *Tape) bool { return x.Text(-1) == "" },
		"Mark":           func(x *Tape) bool { x.Mark("\x00"); return true },
		"the empty Mark": func(x *Tape) bool { x.Mark(""); return true },
		"another Mark":   func(x *Tape) bool { x.Mark("M"); return true },
		"Done":           func(x *Tape) bool { return !x.Done() },
	}
}

// P3.2: whatever is asked of a Bad tape: it stays as it is, and answers nothing.
func TestTapeBadAlready(t *testing.T) {
	for what, ask := range askings() {
		for _, s := range []string{"", "\x00", "\x00\x01\x00\x02\x00\x00", "\x00\x03abcdef", strings.Repeat("\x00", 300), "M"} {
			x := &Tape{S: s, Bad: true}
			if !ask(x) {
				t.Errorf("%s of %q: a Bad tape has answered", what, s)
			}
			tape(t, what, x, s, true)
		}
	}
}

// P3.2: each way to become Bad lasts, though what comes behind would be right.
func TestTapeStaysBad(t *testing.T) {
	good := "\x00\x01" + "\x00\x00\x00\x02" + "\x00\x01a" + "M"
	for what, spoil := range map[string]struct {
		ahead string
		ask   func(x *Tape)
	}{
		"Two":       {"\x00\x05", func(x *Tape) { x.Two(6, 9) }},
		"Four":      {"\x00\x00\x00\x05", func(x *Tape) { x.Four(6, 9) }},
		"Text":      {"\x00\x05", func(x *Tape) { x.Text(4) }},
		"Mark":      {"A", func(x *Tape) { x.Mark("B") }},
		"long Text": {"\x7f\xff", func(x *Tape) { x.Text(math.MaxInt) }},
	} {
		x := &Tape{S: spoil.ahead + good}
		spoil.ask(x)
		if x.S != good {
			t.Errorf("%s: %q is left", what, x.S)
		}
		if a, b, s := x.Two(0, 9), x.Four(0, 9), x.Text(9); a != 0 || b != 0 || s != "" {
			t.Errorf("%s: then %d, %d, %q", what, a, b, s)
		}
		x.Mark("M")
		tape(t, what, x, good, true)
	}
}

// Calls never panic: a pointer to no tape answers as a Bad one.
func TestNoTape(t *testing.T) {
	for what, ask := range askings() {
		if !ask(nil) {
			t.Errorf("%s: no tape has answered", what)
		}
	}
}

// P3.3: each number of two bytes there and back, and greater ones as what is left of them.
func TestTwoThereAndBack(t *testing.T) {
	for n := range 65536 {
		for _, m := range []int{n, n + 65536, n - 65536, n + math.MinInt} {
			x := &Tape{S: Two(m) + "z"}
			if got := x.Two(n, n); got != n || x.S != "z" || x.Bad {
				t.Fatalf("Two(%d): %d, and %+v", m, got, *x)
			}
		}
	}
}

// P3.3: numbers of four bytes there and back: each single bit, its neighbours, and many others.
func TestFourThereAndBack(t *testing.T) {
	r := rand.New(rand.NewSource(33))
	all := []int{0, math.MaxUint32}
	for bit := range 32 {
		all = append(all, 1<<bit, 1<<bit-1, 1<<bit+1)
	}
	for range 5000 {
		all = append(all, int(r.Uint32()))
	}
	for _, n := range all {
		for _, m := range []int{n, n + 1<<32, n - 1<<32, n + math.MinInt} {
			x := &Tape{S: Four(m) + "z"}
			if got := x.Four(n, n); got != n || x.S != "z" || x.Bad {
				t.Fatalf("Four(%d): %d, and %+v", m, got, *x)
			}
		}
	}
}

// P3.3: texts there and back, those that are cut as what was left of them.
func TestTextThereAndBack(t *testing.T) {
	r := rand.New(rand.NewSource(333))
	for _, n := range []int{0, 1, 2, 3, 24, 40, 208, 255, 256, 257, 1500, 65534, 65535, 65536, 100000} {
		s := randomText(r, n)
		want := s[:min(n, 65535)]
		x := &Tape{S: Text(s) + "z"}
		if got := x.Text(len(want)); got != want || x.S != "z" || x.Bad {
			t.Errorf("%d bytes: %d, %d left, Bad %v", n, len(got), len(x.S), x.Bad)
		}
	}
}

// part is something that was written, and how it is read again.
type part struct {
	kind int
	n    int
	s    string
}

func (p part) write() string {
	switch p.kind {
	case 0:
		return Two(p.n)
	case 1:
		return Four(p.n)
	case 2:
		return Text(p.s)
	}
	return p.s
}

// read tells whether it is read as it was written.
func (p part) read(x *Tape) bool {
	switch p.kind {
	case 0:
		return x.Two(0, p.n) == p.n
	case 1:
		return x.Four(p.n, math.MaxUint32) == p.n
	case 2:
		return x.Text(len(p.s)) == p.s
	}
	x.Mark(p.s)
	return true
}

func randomParts(r *rand.Rand) ([]part, string) {
	var parts []part
	var all strings.Builder
	for range r.Intn(12) {
		p := part{kind: r.Intn(4), s: randomText(r, r.Intn(30))}
		p.n = int(r.Uint32())
		if p.kind == 0 {
			p.n %= 65536
		}
		parts = append(parts, p)
		all.WriteString(p.write())
	}
	return parts, all.String()
}

// P3.3: parts of all kinds, one behind the other, are read as they were written; of fewer bytes they are not.
func TestManyPartsThereAndBack(t *testing.T) {
	r := rand.New(rand.NewSource(3333))
	for range 3000 {
		parts, all := randomParts(r)
		x := &Tape{S: all}
		for i, p := range parts {
			if !p.read(x) {
				t.Fatalf("part %d of %q was read as another", i, all)
			}
		}
		tape(t, "all parts", x, "", false)
		if all == "" {
			continue
		}
		cut := &Tape{S: all[:r.Intn(len(all))]}
		for _, p := range parts {
			p.read(cut)
		}
		if !cut.Bad || cut.Done() {
			t.Fatalf("the parts of %q were read off fewer bytes", all)
		}
	}
}

// A call hangs on its arguments alone: tapes that are read at once don't meet, and what was written stays.
func TestAtOnce(t *testing.T) {
	written := Two(258) + Four(65536) + Text("ab")
	var all sync.WaitGroup
	for range 8 {
		all.Go(func() {
			for range 200 {
				x := &Tape{S: written}
				if x.Two(0, 999) != 258 || x.Four(0, 1<<20) != 65536 || x.Text(2) != "ab" || !x.Done() {
					t.Error("read as another")
				}
			}
		})
	}
	all.Wait()
	if written != "\x01\x02\x00\x01\x00\x00\x00\x02ab" {
		t.Errorf("what was written is now %q", written)
	}
}
