package bits

import (
	"fmt"
	"math"
	"math/rand"
	"slices"
	"strings"
	"sync"
	"testing"

	"archivist/api"
)

// ends are numbers of all kinds, the ends of their type too.
var ends = []int{math.MinInt, math.MinInt + 1, math.MinInt + 511, math.MinInt + 512, math.MinInt + 513, -1 << 32, -1 << 31, -65536, -1024, -513, -512, -511, -510, -256, -9, -8, -7, -2, -1, 0, 1, 2, 7, 8, 9, 255, 256, 510, 511, 512, 513, 519, 520, 527, 528, 600, 1023, 1024, 1663, 1664, 65535, 65536, 1<<31 - 1, 1 << 31, 1<<32 - 1, 1 << 32, math.MaxInt - 513, math.MaxInt - 512, math.MaxInt - 511, math.MaxInt - 1, math.MaxInt}

// few are some of them.
var few = []int{math.MinInt, math.MinInt + 1, -513, -512, -1, 0, 1, 2, 7, 8, 9, 255, 256, 510, 511, 512, 513, 600, 1664, math.MaxInt - 511, math.MaxInt - 1, math.MaxInt}

// lengths are how many bytes there may be: none, few, just below and above those of the pages and of the catalog's place, and a page's.
var lengths = []int{0, 1, 2, 31, 63, 64, 65, 66, 67, 208, 300}

// blank is that many bytes of noughts.
func blank(length int) string {
	return strings.Repeat("\x00", length)
}

// full is that many bytes whose bits are all set.
func full(length int) string {
	return strings.Repeat("\xff", length)
}

// mixed is that many bytes of any kind, the same ones each time.
func mixed(length int, seed int64) string {
	b := make([]byte, length)
	rand.New(rand.NewSource(seed)).Read(b)
	return string(b)
}

// maps are bytes of each length, of each kind.
func maps() []string {
	var all []string
	for _, n := range lengths {
		all = append(all, blank(n), full(n), mixed(n, 1), mixed(n, 2), strings.Repeat("\x80", n), strings.Repeat("\x01", n), strings.Repeat("\xaa", n), strings.Repeat("\x18", n))
	}
	return all
}

// signs is map0's bits, written out as signs: another way to read them than the program's.
func signs(map0 string) string {
	var b strings.Builder
	for i := range len(map0) {
		fmt.Fprintf(&b, "%08b", map0[i])
	}
	return b.String()
}

// model is of each of the 512 pages whether it is taken.
func model(map0 string) [512]bool {
	var pages [512]bool
	for i, sign := range signs(map0[:min(len(map0), 64)]) {
		pages[i] = sign == '1'
	}
	return pages
}

// marked is map0 with the runs' pages marked one by one, each of them held against the pages that there are.
func marked(map0 string, l []api.Span, taken bool) string {
	b := []byte(map0)
	for _, run := range l {
		for i := 0; i < 512 && i < run.Len; i++ {
			no := run.Start + i
			if no < 0 || no >= 512 || no/8 >= len(b) {
				continue
			}
			value := byte(128)
			for range no % 8 {
				value /= 2
			}
			b[no/8] &= 255 - value
			if taken {
				b[no/8] += value
			}
		}
	}
	return string(b)
}

// frees are the numbers of those of so many pages that aren't taken.
func frees(model [512]bool, pages int) []int {
	var l []int
	for no, taken := range model {
		if no < pages && !taken {
			l = append(l, no)
		}
	}
	return l
}

// runsOf is these rising numbers as runs, each as long as it goes.
func runsOf(numbers []int) []api.Span {
	var runs []api.Span
	for i := 0; i < len(numbers); {
		n := 1
		for i+n < len(numbers) && numbers[i+n] == numbers[i]+n {
			n++
		}
		runs = append(runs, api.Span{Start: numbers[i], Len: n})
		i += n
	}
	return runs
}

// side is the first run, by cutting the longest ones that there are: another way than the program's.
func side(model [512]bool, pages, n int) (api.Span, bool) {
	for _, run := range runsOf(frees(model, pages)) {
		if n >= 1 && n <= run.Len {
			return api.Span{Start: run.Start, Len: n}, true
		}
	}
	return api.Span{}, false
}

// run is one of them.
func run(start, length int) []api.Span {
	return []api.Span{{Start: start, Len: length}}
}

// example is the chapter's: pages 0, 9 and 10 are taken.
func example() string {
	return Mark(blank(208), []api.Span{{Start: 0, Len: 1}, {Start: 9, Len: 2}}, true)
}

// P9.1: the chapter's example.
func TestExample(t *testing.T) {
	m := example()
	if want := "\x80\x60" + blank(206); m != want {
		t.Fatalf("%q", m)
	}
	if a, is := Side(m, 512, 8); !is || a != (api.Span{Start: 1, Len: 8}) {
		t.Errorf("eight side by side: %v, %v", a, is)
	}
	if a, is := Side(m, 512, 9); !is || a != (api.Span{Start: 11, Len: 9}) {
		t.Errorf("nine side by side: %v, %v", a, is)
	}
	if l, is := Some(m, 512, 9); !is || !slices.Equal(l, []api.Span{{Start: 1, Len: 8}, {Start: 11, Len: 1}}) {
		t.Errorf("nine: %v, %v", l, is)
	}
	for no := range 512 {
		if got, want := Taken(m, no), no == 0 || no == 9 || no == 10; got != want {
			t.Errorf("page %d: %v", no, got)
		}
	}
	if got := Free(m, 512); got != 509 {
		t.Errorf("%d are free", got)
	}
	if got := Mark(m, []api.Span{{Start: 9, Len: 2}, {Start: 0, Len: 1}}, false); got != blank(208) {
		t.Errorf("taken away again: %q", got)
	}
}

// P9.1: a page's bit, each byte's highest first.
func TestTakenBits(t *testing.T) {
	for _, c := range []struct {
		at    int
		value byte
		no    int
	}{{0, 128, 0}, {0, 64, 1}, {0, 1, 7}, {1, 128, 8}, {1, 1, 15}, {31, 1, 255}, {32, 128, 256}, {63, 128, 504}, {63, 2, 510}, {63, 1, 511}} {
		b := []byte(blank(208))
		b[c.at] = c.value
		for no := -9; no < 600; no++ {
			if got := Taken(string(b), no); got != (no == c.no) {
				t.Errorf("byte %d is %d, page %d: %v", c.at, c.value, no, got)
			}
		}
	}
}

// P9.1: false of a page below 0, from 512 on, or beyond map0's bytes.
func TestTakenNoPage(t *testing.T) {
	for _, n := range lengths {
		m := full(n)
		for _, no := range append(ends, 8*n-1, 8*n, 8*n+1) {
			if got, want := Taken(m, no), 0 <= no && no < 512 && no < 8*n; got != want {
				t.Errorf("%d bytes, page %d: %v", n, no, got)
			}
		}
		if n > 0 && n <= 64 && (!Taken(m, 8*n-1) || Taken(m, 8*n)) {
			t.Errorf("%d bytes: %v, %v", n, Taken(m, 8*n-1), Taken(m, 8*n))
		}
	}
	if m := full(208); Taken(m, -1) || Taken(m, 512) || !Taken(m, 0) || !Taken(m, 511) {
		t.Error("pages -1, 512, 0, 511")
	}
}

// P9.1: Taken of each page of bytes of all kinds.
func TestTakenEach(t *testing.T) {
	for _, m := range maps() {
		for no, want := range model(m) {
			if got := Taken(m, no); got != want {
				t.Errorf("%q, page %d: %v", m, no, got)
			}
		}
	}
}

// P9.1: marks of one run, written out.
func TestMarkOne(t *testing.T) {
	for _, c := range []struct {
		what         string
		length       int
		start, pages int
		want         string
	}{
		{"page 0", 66, 0, 1, "\x80" + blank(65)},
		{"page 7", 66, 7, 1, "\x01" + blank(65)},
		{"page 8", 66, 8, 1, "\x00\x80" + blank(64)},
		{"page 511", 66, 511, 1, blank(63) + "\x01" + blank(2)},
		{"over a byte's end", 66, 6, 4, "\x03\xc0" + blank(64)},
		{"over two bytes' ends", 66, 7, 10, "\x01\xff\x80" + blank(63)},
		{"to page 511", 66, 508, 4, blank(63) + "\x0f" + blank(2)},
		{"beyond page 511", 66, 508, 5, blank(63) + "\x0f" + blank(2)},
		{"far beyond page 511", 208, 508, math.MaxInt, blank(63) + "\x0f" + blank(144)},
		{"page 512", 208, 512, 1, blank(208)},
		{"page 600 on", 208, 600, 9, blank(208)},
		{"all", 208, 0, 512, full(64) + blank(144)},
		{"more than all", 208, 0, 513, full(64) + blank(144)},
		{"as many as can be told", 208, 0, math.MaxInt, full(64) + blank(144)},
		{"beyond the bytes", 2, 14, 9, "\x00\x03"},
		{"behind the bytes", 2, 16, 1, "\x00\x00"},
		{"no bytes", 0, 0, 512, ""},
		{"63 bytes", 63, 500, 100, blank(62) + "\x0f"},
		{"below 0", 66, -1, 1, blank(66)},
		{"from below 0 to page 0", 66, -1, 2, "\x80" + blank(65)},
		{"from below 0 to page 4", 66, -5, 10, "\xf8" + blank(65)},
		{"from -511 on the first 512: page 0", 66, -511, 512, "\x80" + blank(65)},
		{"from -511 on the first 512, though there are more", 66, -511, 513, "\x80" + blank(65)},
		{"from -511 on as many as can be told", 66, -511, math.MaxInt, "\x80" + blank(65)},
		{"from -512 on", 66, -512, 1024, blank(66)},
		{"from -4 on: to page 507", 66, -4, 600, full(63) + "\xf0" + blank(2)},
		{"no page", 66, 9, 0, blank(66)},
		{"a Len of -1", 66, 9, -1, blank(66)},
		{"a Len of -9", 66, 9, -9, blank(66)},
		{"the lowest Len", 66, 9, math.MinInt, blank(66)},
		{"the lowest Len from below 0", 66, -1, math.MinInt, blank(66)},
		{"the lowest Start and Len", 66, math.MinInt, math.MinInt, blank(66)},
		{"the lowest Start, the highest Len", 66, math.MinInt, math.MaxInt, blank(66)},
		{"the highest Start", 66, math.MaxInt, 512, blank(66)},
		{"the highest Start and Len", 66, math.MaxInt, math.MaxInt, blank(66)},
	} {
		if got := Mark(blank(c.length), run(c.start, c.pages), true); got != c.want {
			t.Errorf("%s: %q", c.what, got)
		}
		turned := []byte(c.want)
		for i := range turned {
			turned[i] ^= 255
		}
		if got := Mark(full(c.length), run(c.start, c.pages), false); got != string(turned) {
			t.Errorf("%s, taken away: %q", c.what, got)
		}
		if got := Mark(blank(c.length), run(c.start, c.pages), false); got != blank(c.length) {
			t.Errorf("%s, taken away where none is: %q", c.what, got)
		}
		if got := Mark(full(c.length), run(c.start, c.pages), true); got != full(c.length) {
			t.Errorf("%s, taken where all are: %q", c.what, got)
		}
	}
}

// P9.1: no runs, several, and runs that lie over one another.
func TestMarkSeveral(t *testing.T) {
	for _, m := range maps() {
		for _, l := range [][]api.Span{nil, {}, {{}}, {{}, {Start: 9}}} {
			if Mark(m, l, true) != m || Mark(m, l, false) != m {
				t.Errorf("%q with %v", m, l)
			}
		}
	}
	over := []api.Span{{Start: 2, Len: 4}, {Start: 0, Len: 3}, {Start: 4, Len: 1}, {Start: 14, Len: 3}, {Start: 14, Len: 3}}
	if got := Mark(blank(66), over, true); got != "\xfc\x03\x80"+blank(63) {
		t.Errorf("%q", got)
	}
	if got := Mark(full(66), over, false); got != "\x03\xfc\x7f"+full(63) {
		t.Errorf("%q", got)
	}
	wrong := []api.Span{{Start: 600, Len: 9}, {Start: 3, Len: 1}, {Start: math.MaxInt, Len: math.MaxInt}, {Start: -1, Len: math.MinInt}, {Start: 511, Len: 2}}
	if got := Mark(blank(66), wrong, true); got != "\x10"+blank(62)+"\x01"+blank(2) {
		t.Errorf("those that there aren't: %q", got)
	}
}

// P9.1, P9.2: Starts and Lens of all kinds, over bytes of all kinds: the bytes are those that marks page by page make, so no other bit has changed, and where the catalog begins neither.
func TestMarkEnds(t *testing.T) {
	for _, n := range lengths {
		for _, m := range []string{blank(n), full(n), mixed(n, 3)} {
			for _, start := range append(ends, 8*n-1, 8*n) {
				for _, length := range append(few, 8*n-start, 8*n-start+1, -start, 1-start) {
					l := run(start, length)
					for _, taken := range []bool{true, false} {
						if got := Mark(m, l, taken); got != marked(m, l, taken) {
							t.Fatalf("%q with %v as %v: %q", m, l, taken, got)
						}
					}
				}
			}
		}
	}
}

// P9.2: each single page's mark changes its own bit alone, there and back.
func TestMarkOwnPageAlone(t *testing.T) {
	for _, n := range lengths {
		for _, m := range []string{blank(n), full(n), mixed(n, 4)} {
			before := signs(m)
			for no := range min(8*n, 540) {
				for taken, sign := range map[bool]string{true: "1", false: "0"} {
					want := before
					if no < 512 {
						want = before[:no] + sign + before[no+1:]
					}
					got := Mark(m, run(no, 1), taken)
					if signs(got) != want {
						t.Fatalf("%d bytes, page %d as %v: %q", n, no, taken, got)
					}
					if back := Mark(got, run(no, 1), Taken(m, no)); back != m {
						t.Fatalf("%d bytes, page %d as %v and back: %q", n, no, taken, back)
					}
				}
			}
		}
	}
}

// anyRuns is some runs, most of them of pages that there are.
func anyRuns(r *rand.Rand) []api.Span {
	var l []api.Span
	for range r.Intn(6) {
		if r.Intn(5) == 0 {
			l = append(l, api.Span{Start: ends[r.Intn(len(ends))], Len: ends[r.Intn(len(ends))]})
		} else {
			l = append(l, api.Span{Start: r.Intn(560) - 24, Len: r.Intn(90) - 2})
		}
	}
	return l
}

// P9.2: of any runs, pages outside of them stay as they were, those inside are as they were marked, and so does the catalog's beginning stay; marks of several runs are those of one after the other, in whichever order.
func TestMarkAnyRuns(t *testing.T) {
	r := rand.New(rand.NewSource(5))
	for range 3000 {
		m := mixed(lengths[r.Intn(len(lengths))], r.Int63())
		l, taken := anyRuns(r), r.Intn(2) == 0
		got := Mark(m, l, taken)
		if want := marked(m, l, taken); got != want {
			t.Fatalf("%q with %v as %v: %q", m, l, taken, got)
		}
		if Root(got) != Root(m) || len(got) != len(m) || len(m) > 64 && got[64:] != m[64:] {
			t.Fatalf("%q with %v as %v: %q", m, l, taken, got)
		}
		one := m
		for _, x := range slices.Backward(l) {
			one = Mark(one, []api.Span{x}, taken)
		}
		if one != got || Mark(got, l, taken) != got {
			t.Fatalf("%q with %v as %v: one by one %q", m, l, taken, one)
		}
	}
}

// P9.1: Free, written out.
func TestFree(t *testing.T) {
	for _, c := range []struct {
		map0        string
		pages, want int
	}{
		{example(), 20, 17},
		{example(), 0, 0},
		{example(), 1, 0},
		{example(), 2, 1},
		{example(), 9, 8},
		{example(), 10, 8},
		{example(), 11, 8},
		{example(), 12, 9},
		{example(), 511, 508},
		{example(), 512, 509},
		{example(), 513, 509},
		{example(), math.MaxInt, 509},
		{example(), -1, 0},
		{example(), math.MinInt, 0},
		{blank(208), 512, 512},
		{blank(208), 600, 512},
		{full(64), 512, 0},
		{full(208), 512, 0},
		{full(208), math.MaxInt, 0},
		{full(63), 512, 8},
		{full(63), 505, 1},
		{full(63), 504, 0},
		{"", 0, 0},
		{"", 9, 9},
		{"", 512, 512},
		{"", 513, 512},
		{"", math.MaxInt, 512},
		{"", -1, 0},
		{"\xff", 9, 1},
		{"\x7f", 8, 1},
		{"\xfe", 8, 1},
		{"\xfe", 7, 0},
	} {
		if got := Free(c.map0, c.pages); got != c.want {
			t.Errorf("of %d pages of %q: %d", c.pages, c.map0, got)
		}
	}
}

// P9.1: Free of bytes of all kinds, of each number of pages.
func TestFreeEach(t *testing.T) {
	numbers := slices.Clone(ends)
	for pages := range 520 {
		numbers = append(numbers, pages)
	}
	for _, m := range maps() {
		taken := model(m)
		for _, pages := range numbers {
			if got, want := Free(m, pages), len(frees(taken, pages)); got != want {
				t.Fatalf("of %d pages of %q: %d", pages, m, got)
			}
		}
	}
}

// P9.1: Side, written out; zero and false where there is none.
func TestSide(t *testing.T) {
	none := api.Span{}
	gaps := Mark(full(208), []api.Span{{Start: 3, Len: 1}, {Start: 6, Len: 3}, {Start: 14, Len: 4}, {Start: 510, Len: 2}}, false)
	for _, c := range []struct {
		map0     string
		pages, n int
		want     api.Span
	}{
		{example(), 20, 8, api.Span{Start: 1, Len: 8}},
		{example(), 20, 1, api.Span{Start: 1, Len: 1}},
		{example(), 20, 9, api.Span{Start: 11, Len: 9}},
		{example(), 20, 10, none},
		{example(), 19, 9, none},
		{example(), 9, 8, api.Span{Start: 1, Len: 8}},
		{example(), 8, 8, none},
		{example(), 512, 501, api.Span{Start: 11, Len: 501}},
		{example(), 512, 502, none},
		{example(), math.MaxInt, 502, none},
		{example(), math.MaxInt, 501, api.Span{Start: 11, Len: 501}},
		{gaps, 512, 1, api.Span{Start: 3, Len: 1}},
		{gaps, 512, 2, api.Span{Start: 6, Len: 2}},
		{gaps, 512, 3, api.Span{Start: 6, Len: 3}},
		{gaps, 512, 4, api.Span{Start: 14, Len: 4}},
		{gaps, 512, 5, none},
		{gaps, 17, 4, none},
		{gaps, 18, 4, api.Span{Start: 14, Len: 4}},
		{gaps, 3, 1, none},
		{gaps, 4, 1, api.Span{Start: 3, Len: 1}},
		{Mark(full(64), run(510, 2), false), 512, 2, api.Span{Start: 510, Len: 2}},
		{Mark(full(64), run(510, 2), false), 512, 3, none},
		{Mark(full(64), run(510, 2), false), 511, 2, none},
		{Mark(full(64), run(511, 1), false), 513, 1, api.Span{Start: 511, Len: 1}},
		{blank(208), 512, 512, api.Span{Start: 0, Len: 512}},
		{blank(208), 512, 513, none},
		{blank(208), 513, 513, none},
		{blank(208), 600, 512, api.Span{Start: 0, Len: 512}},
		{blank(208), 0, 1, none},
		{blank(208), 1, 1, api.Span{Start: 0, Len: 1}},
		{blank(208), -1, 1, none},
		{blank(208), math.MinInt, 1, none},
		{"", 512, 512, api.Span{Start: 0, Len: 512}},
		{"", 3, 3, api.Span{Start: 0, Len: 3}},
		{"", 3, 4, none},
		{"", 0, 1, none},
		{full(63), 512, 8, api.Span{Start: 504, Len: 8}},
		{full(63), 512, 9, none},
		{full(64), 512, 1, none},
		{full(208), math.MaxInt, 1, none},
		{blank(208), 512, 0, none},
		{blank(208), 512, -1, none},
		{blank(208), 512, math.MinInt, none},
		{blank(208), 512, math.MaxInt, none},
		{blank(208), math.MaxInt, math.MaxInt, none},
		{blank(208), math.MinInt, math.MinInt, none},
		{blank(208), 0, 0, none},
		{full(208), 512, 0, none},
		{"", 0, 0, none},
		{"", 0, -1, none},
	} {
		if got, is := Side(c.map0, c.pages, c.n); got != c.want || is != (c.want != none) {
			t.Errorf("%d side by side, of %d pages of %q: %v, %v", c.n, c.pages, c.map0, got, is)
		}
	}
}

// patches is bytes with runs of pages of many lengths that aren't taken.
func patches(length int, seed int64) string {
	r := rand.New(rand.NewSource(seed))
	m := full(length)
	for range 1 + r.Intn(12) {
		m = Mark(m, run(r.Intn(512), 1+r.Intn(60)), false)
	}
	return m
}

// patched is bytes of that kind, as many as a page has and too few for all pages.
func patched() []string {
	var all []string
	for seed := range int64(8) {
		all = append(all, patches(208, seed), patches(40, seed))
	}
	return all
}

// P9.1: Side of bytes of all kinds, of pages and n of all kinds.
func TestSideEach(t *testing.T) {
	numbers := slices.Concat(few, []int{3, 4, 5, 6, 16, 17, 31, 60, 61, 100, 248, 249, 500, 504, 505})
	for _, m := range slices.Concat(maps(), patched()) {
		taken := model(m)
		for _, pages := range numbers {
			for _, n := range numbers {
				got, is := Side(m, pages, n)
				if want, there := side(taken, pages, n); got != want || is != there {
					t.Fatalf("%d side by side, of %d pages of %q: %v, %v", n, pages, m, got, is)
				}
			}
		}
	}
}

// P9.1: Some, written out.
func TestSome(t *testing.T) {
	for _, c := range []struct {
		map0     string
		pages, n int
		want     []api.Span
		is       bool
	}{
		{example(), 20, 0, nil, true},
		{example(), 20, 1, run(1, 1), true},
		{example(), 20, 7, run(1, 7), true},
		{example(), 20, 8, run(1, 8), true},
		{example(), 20, 9, []api.Span{{Start: 1, Len: 8}, {Start: 11, Len: 1}}, true},
		{example(), 20, 10, []api.Span{{Start: 1, Len: 8}, {Start: 11, Len: 2}}, true},
		{example(), 20, 17, []api.Span{{Start: 1, Len: 8}, {Start: 11, Len: 9}}, true},
		{example(), 20, 18, nil, false},
		{example(), 512, 509, []api.Span{{Start: 1, Len: 8}, {Start: 11, Len: 501}}, true},
		{example(), 512, 510, nil, false},
		{example(), math.MaxInt, 509, []api.Span{{Start: 1, Len: 8}, {Start: 11, Len: 501}}, true},
		{example(), math.MaxInt, 510, nil, false},
		{example(), 1, 1, nil, false},
		{example(), 2, 1, run(1, 1), true},
		{"\x55", 8, 4, []api.Span{{Start: 0, Len: 1}, {Start: 2, Len: 1}, {Start: 4, Len: 1}, {Start: 6, Len: 1}}, true},
		{"\x55", 8, 5, nil, false},
		{"\x55", 9, 5, []api.Span{{Start: 0, Len: 1}, {Start: 2, Len: 1}, {Start: 4, Len: 1}, {Start: 6, Len: 1}, {Start: 8, Len: 1}}, true},
		{"\xaa", 10, 6, []api.Span{{Start: 1, Len: 1}, {Start: 3, Len: 1}, {Start: 5, Len: 1}, {Start: 7, Len: 3}}, true},
		{blank(208), 512, 512, run(0, 512), true},
		{blank(208), 512, 513, nil, false},
		{blank(208), 600, 513, nil, false},
		{blank(208), 600, 512, run(0, 512), true},
		{blank(208), 9, 9, run(0, 9), true},
		{blank(208), 9, 10, nil, false},
		{blank(208), 0, 1, nil, false},
		{blank(208), -1, 1, nil, false},
		{blank(208), math.MinInt, 1, nil, false},
		{"", 512, 512, run(0, 512), true},
		{"", 0, 1, nil, false},
		{"", 3, 3, run(0, 3), true},
		{full(63), 512, 8, run(504, 8), true},
		{full(63), 512, 9, nil, false},
		{full(64), 512, 1, nil, false},
		{full(64), math.MaxInt, 1, nil, false},
		{Mark(full(66), run(511, 1), false), 512, 1, run(511, 1), true},
		{Mark(full(66), run(511, 1), false), 511, 1, nil, false},
		{blank(208), 512, -1, nil, true},
		{blank(208), 512, math.MinInt, nil, true},
		{blank(208), math.MinInt, math.MinInt, nil, true},
		{blank(208), 0, 0, nil, true},
		{full(208), 512, 0, nil, true},
		{full(208), 512, -9, nil, true},
		{full(208), -1, 0, nil, true},
		{"", 0, 0, nil, true},
		{"", 0, -1, nil, true},
		{blank(208), 512, math.MaxInt, nil, false},
		{blank(208), math.MaxInt, math.MaxInt, nil, false},
	} {
		if got, is := Some(c.map0, c.pages, c.n); !slices.Equal(got, c.want) || is != c.is {
			t.Errorf("%d of %d pages of %q: %v, %v", c.n, c.pages, c.map0, got, is)
		}
	}
}

// checkSome holds Some against the numbers of those that are free.
func checkSome(t *testing.T, m string, free []int, pages, n int) {
	t.Helper()
	var want []api.Span
	there := n <= len(free)
	if there {
		want = runsOf(free[:max(n, 0)])
	}
	if got, is := Some(m, pages, n); !slices.Equal(got, want) || is != there {
		t.Fatalf("%d of %d pages of %q: %v, %v", n, pages, m, got, is)
	}
}

// P9.1: Some of bytes of all kinds, of pages and n of all kinds, of just as many as are free, one less and one more.
func TestSomeEach(t *testing.T) {
	for _, m := range slices.Concat(maps(), patched()) {
		taken := model(m)
		for _, pages := range few {
			free := frees(taken, pages)
			for _, n := range append(few, len(free)-1, len(free), len(free)+1) {
				checkSome(t, m, free, pages, n)
			}
		}
	}
}

// P9.1, P9.2: what Some and Side answer wasn't taken; marked, it is, and nothing else; taken away again, all is as it was.
func TestTakeAndGiveBack(t *testing.T) {
	for seed := range 40 {
		m := patches(208, int64(seed))
		for n := 1; n <= Free(m, 512); n += 7 {
			l, is := Some(m, 512, n)
			taken := Mark(m, l, true)
			if !is || Free(taken, 512) != Free(m, 512)-n || Mark(taken, l, false) != m {
				t.Fatalf("%d of %q: %v, %v", n, m, l, is)
			}
			a, is := Side(m, 512, n)
			if !is {
				continue
			}
			taken = Mark(m, []api.Span{a}, true)
			if Free(taken, 512) != Free(m, 512)-n || Mark(taken, []api.Span{a}, false) != m {
				t.Fatalf("%d side by side of %q: %v", n, m, a)
			}
		}
	}
}

// P9.1: where the catalog begins, written out.
func TestRoot(t *testing.T) {
	for _, c := range []struct {
		no         int
		high, last byte
	}{{0, 0, 0}, {1, 0, 1}, {255, 0, 255}, {256, 1, 0}, {300, 1, 44}, {511, 1, 255}} {
		for _, length := range []int{66, 67, 208} {
			for _, m := range []string{blank(length), full(length), mixed(length, 6)} {
				got := SetRoot(m, c.no)
				if want := m[:64] + string([]byte{c.high, c.last}) + m[66:]; got != want {
					t.Errorf("%d set in %q: %q", c.no, m, got)
				}
				if Root(got) != c.no {
					t.Errorf("%d: %d", c.no, Root(got))
				}
			}
		}
	}
}

// P9.1: of fewer than 66 bytes Root is 0, and SetRoot is what was handed in.
func TestRootOfFewBytes(t *testing.T) {
	for length := range 66 {
		for _, m := range []string{blank(length), full(length), mixed(length, 7)} {
			if got := Root(m); got != 0 {
				t.Errorf("%d bytes: %d", length, got)
			}
			for _, no := range []int{0, 1, 255, 256, 511} {
				if got := SetRoot(m, no); got != m {
					t.Errorf("%d set in %q: %q", no, m, got)
				}
			}
		}
	}
	if got := Root(full(66)); got != 65535 {
		t.Errorf("two bytes that are as high as may be: %d", got)
	}
	if got := Root(blank(64) + "\x01\x02"); got != 258 {
		t.Errorf("the highest first: %d", got)
	}
}

// P9.1: SetRoot of numbers of all kinds: only those from 0 to 511 are set, and the pages' bits stay.
func TestSetRootEach(t *testing.T) {
	numbers := slices.Clone(ends)
	for no := range 600 {
		numbers = append(numbers, no, -no, no+65536, no+1<<32)
	}
	for _, m := range maps() {
		for _, no := range numbers {
			got, want := SetRoot(m, no), m
			if len(m) >= 66 && 0 <= no && no <= 511 {
				want = m[:64] + string([]byte{byte(no / 256), byte(no % 256)}) + m[66:]
			}
			if got != want {
				t.Fatalf("%d set in %q: %q", no, m, got)
			}
		}
	}
}

// P9.1: the bits beyond page 511 are no pages': what stands there neither is taken nor counts.
func TestBeyondThePages(t *testing.T) {
	a, b := blank(64)+full(144), blank(208)
	for _, pages := range []int{512, 513, 528, 1664, math.MaxInt} {
		one, is := Side(a, pages, 512)
		other, too := Side(b, pages, 512)
		if Free(a, pages) != 512 || Free(b, pages) != 512 || !is || !too || one != other {
			t.Errorf("of %d: %d, %d, %v, %v", pages, Free(a, pages), Free(b, pages), one, other)
		}
		if l, is := Some(a, pages, 513); is || len(l) > 0 {
			t.Errorf("of %d: %v, %v", pages, l, is)
		}
	}
}

// Rule 3: neither the runs that are handed in nor their spare room are changed, and an answer's runs are its own.
func TestNothingHandedInIsChanged(t *testing.T) {
	room := []api.Span{{Start: -3, Len: 5}, {Start: 500, Len: 600}, {Start: 70, Len: 71}, {Start: 80, Len: 81}}
	before := slices.Clone(room)
	m := mixed(208, 8)
	kept := strings.Clone(m)
	first := Mark(m, room[:2], true)
	second := Mark(m, room[:2], false)
	SetRoot(m, 300)
	if !slices.Equal(room, before) || m != kept {
		t.Errorf("%v, %q", room, m)
	}
	room[0], room[1] = api.Span{Start: 9, Len: 9}, api.Span{Start: 99, Len: 9}
	if first != Mark(m, before[:2], true) || second != Mark(m, before[:2], false) {
		t.Error("an answer has changed with what was handed in")
	}
	one, _ := Some(m, 512, 30)
	two, _ := Some(m, 512, 30)
	want := slices.Clone(two)
	one[0] = api.Span{Start: 7, Len: 7}
	one = append(one, api.Span{Start: 8, Len: 8})
	if three, _ := Some(m, 512, 30); !slices.Equal(two, want) || !slices.Equal(three, want) {
		t.Errorf("%v, %v, %v", one, two, three)
	}
}

// Rule 6: any number of goroutines may call at once.
func TestAtOnce(t *testing.T) {
	m := SetRoot(example(), 300)
	runs := []api.Span{{Start: 0, Len: 1}, {Start: 9, Len: 2}}
	var all sync.WaitGroup
	for range 8 {
		all.Add(1)
		go func() {
			defer all.Done()
			for range 200 {
				a, is := Side(m, 20, 8)
				l, fine := Some(m, 20, 10)
				if !is || a != (api.Span{Start: 1, Len: 8}) || !fine || len(l) != 2 || Free(m, 20) != 17 || Root(m) != 300 || !Taken(m, 9) || Mark(m, runs, true) != m {
					t.Errorf("%v, %v, %v, %v", a, is, l, fine)
				}
			}
		}()
	}
	all.Wait()
}
