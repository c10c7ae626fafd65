package run

import (
	"math"
	"math/rand"
	"slices"
	"strings"
	"testing"

	"archivist/api"
	"archivist/vault"
)

// wrong are numbers of pages that no vault has.
var wrong = []int{math.MinInt, -1 << 32, -512, -16, -1, 512, 513, 65535, 1 << 31, 1 << 32, 1<<32 + 3, math.MaxInt - 1, math.MaxInt}

// sizes are bodies' lengths: few bytes, and all about the ends of one page to eight.
var sizes = []int{1, 2, 100, 207, 208, 209, 300, 415, 416, 417, 600, 623, 624, 625, 832, 833, 1040, 1041, 1248, 1249, 1456, 1457, 1500}

// mixed is that many bytes of any kind, the same ones each time.
func mixed(n int, seed int64) string {
	b := make([]byte, n)
	rand.New(rand.NewSource(seed)).Read(b)
	return string(b)
}

// page is a page's bytes: these, and noughts.
func page(data string) string {
	return data + strings.Repeat("\x00", 208-len(data))
}

// need is how many pages so many bytes take, counted one by one.
func need(size int) int {
	n := 0
	for ; size > 0; size -= 208 {
		n++
	}
	return n
}

// from is pages one behind the other.
func from(first, n int) []int {
	var list []int
	for i := range n {
		list = append(list, first+i)
	}
	return list
}

// span is one run.
func span(start, n int) []api.Span {
	return []api.Span{{Start: start, Len: n}}
}

// runsOf is pages, told in any order, as runs that go on as long as the pages do.
func runsOf(pages ...int) []api.Span {
	var l []api.Span
	for i, no := range pages {
		if i > 0 && pages[i-1]+1 == no {
			l[len(l)-1].Len++
			continue
		}
		l = append(l, api.Span{Start: no, Len: 1})
	}
	return l
}

// pagesOf is the runs' pages, in their order.
func pagesOf(l []api.Span) []int {
	var pages []int
	for _, x := range l {
		pages = append(pages, from(x.Start, x.Len)...)
	}
	return pages
}

func same(a, b api.Vault) bool {
	return slices.Equal(a.Disk.Sure, b.Disk.Sure) && slices.Equal(a.Disk.Wet, b.Disk.Wet) && a.Disk.Dead == b.Disk.Dead && a.Disk.Left == b.Disk.Left && a.Shape == b.Shape && a.Seq == b.Seq && slices.Equal(a.Dirty, b.Dirty)
}

func formatted(t *testing.T, pages int) api.Vault {
	t.Helper()
	v, err := vault.Format(pages, 256)
	if err != api.OK {
		t.Fatalf("Format(%d): %d", pages, err)
	}
	return v
}

// laid is a vault some of whose pages are to be these.
func laid(t *testing.T, v api.Vault, pages map[int]string) api.Vault {
	t.Helper()
	for no, s := range pages {
		var err api.Errno
		if v, err = vault.Write(v, no, s); err != api.OK {
			t.Fatalf("Write(%d): %d", no, err)
		}
	}
	return v
}

// marked is a vault whose page 0 has just these pages as taken, and that for its other bytes.
func marked(t *testing.T, v api.Vault, tail string, pages ...int) api.Vault {
	t.Helper()
	b := make([]byte, 64)
	for _, no := range pages {
		b[no/8] |= 1 << (7 - no%8)
	}
	return laid(t, v, map[int]string{0: string(b) + tail})
}

func dead(v api.Vault) api.Vault {
	v.Disk.Dead = true
	return v
}

// spoilt is a vault whose disk has something else where a page's sector is.
func spoilt(v api.Vault, no int) api.Vault {
	v.Disk.Sure = slices.Clone(v.Disk.Sure)
	v.Disk.Sure[1+256+no] = strings.Repeat("\xff", 256)
	return v
}

func committed(t *testing.T, v api.Vault) api.Vault {
	t.Helper()
	v, err := vault.Commit(v)
	if err != api.OK {
		t.Fatalf("Commit: %d", err)
	}
	return v
}

// reopened is a vault as it stands on its disk.
func reopened(t *testing.T, v api.Vault) api.Vault {
	t.Helper()
	v, _, err := vault.Open(committed(t, v).Disk)
	if err != api.OK {
		t.Fatalf("Open: %d", err)
	}
	return v
}

func take(t *testing.T, v api.Vault, body string, pieces bool) (api.Vault, []api.Span) {
	t.Helper()
	v, l, err := Take(v, body, pieces)
	if err != api.OK {
		t.Fatalf("Take of %d bytes: %d", len(body), err)
	}
	return v, l
}

func give(t *testing.T, v api.Vault, l ...api.Span) api.Vault {
	t.Helper()
	v, err := Give(v, l)
	if err != api.OK {
		t.Fatalf("Give(%v): %d", l, err)
	}
	return v
}

// bytesOf is a page's bytes.
func bytesOf(t *testing.T, v api.Vault, no int) string {
	t.Helper()
	s, err := vault.Read(v, no)
	if err != api.OK {
		t.Fatalf("Read(%d): %d", no, err)
	}
	return s
}

// takenIs checks which pages page 0 has as taken, of all 512, read bit by bit.
func takenIs(t *testing.T, v api.Vault, want ...int) {
	t.Helper()
	map0 := bytesOf(t, v, 0)
	var got []int
	for no := range 512 {
		if map0[no/8]>>(7-no%8)&1 == 1 {
			got = append(got, no)
		}
	}
	if !slices.Equal(got, want) {
		t.Errorf("taken are %v, want %v", got, want)
	}
}

// bodyIs checks bytes that stand in runs, and each page of these: all but the last one are full, and noughts are behind the last one's.
func bodyIs(t *testing.T, v api.Vault, l []api.Span, body string) {
	t.Helper()
	if got, err := Load(v, l, len(body)); err != api.OK || got != body {
		t.Fatalf("Load(%v) of %d bytes: %d bytes, %d", l, len(body), len(got), err)
	}
	rest := body
	for _, no := range pagesOf(l) {
		part := rest[:min(208, len(rest))]
		rest = rest[len(part):]
		if bytesOf(t, v, no) != page(part) {
			t.Fatalf("page %d has other bytes", no)
		}
	}
}

// refused checks that bytes aren't taken, that nothing is answered with that, and that the vault is as it was.
func refused(t *testing.T, v api.Vault, n int, pieces bool, want api.Errno) {
	t.Helper()
	if got, l, err := Take(v, mixed(n, 9), pieces); err != want || len(l) != 0 || !same(got, v) {
		t.Errorf("Take of %d bytes, pieces %t: %v, %d, want %d and the vault as it was", n, pieces, l, err, want)
	}
}

// unread checks that runs have no bytes to load.
func unread(t *testing.T, v api.Vault, l []api.Span, size int, want api.Errno) {
	t.Helper()
	if s, err := Load(v, l, size); err != want || s != "" {
		t.Errorf("Load(%v, %d): %d bytes, %d, want %d", l, size, len(s), err, want)
	}
}

// P14.1: each size, and the ends of what an int holds.
func TestPages(t *testing.T) {
	for _, c := range []struct{ size, want int }{
		{math.MinInt, 0}, {-417, 0}, {-416, 0}, {-209, 0}, {-208, 0}, {-1, 0}, {0, 0}, {1, 1}, {207, 1}, {208, 1}, {209, 2}, {416, 2}, {417, 3}, {600, 3}, {1500, 8},
		{208 << 50, 1 << 50}, {208<<50 + 1, 1<<50 + 1}, {math.MaxInt, 44343134792571038},
	} {
		if got := Pages(c.size); got != c.want {
			t.Errorf("Pages(%d): %d, want %d", c.size, got, c.want)
		}
	}
	for size := range 5000 {
		if got := Pages(size); got != need(size) {
			t.Errorf("Pages(%d): %d, want %d", size, got, need(size))
		}
	}
}

// P14.1: the chapter's example, byte by byte.
func TestExample(t *testing.T) {
	v, _ := take(t, formatted(t, 16), mixed(416, 1), false)
	v, other := take(t, v, "other", false)
	v = give(t, v, api.Span{Start: 1, Len: 2})
	body := mixed(600, 2)
	v, l := take(t, v, body, true)
	if !slices.Equal(other, span(3, 1)) || !slices.Equal(l, []api.Span{{Start: 1, Len: 2}, {Start: 4, Len: 1}}) {
		t.Fatalf("they are in %v and %v", other, l)
	}
	for no, want := range []string{"\xf8", body[:208], body[208:416], "other", body[416:]} {
		if bytesOf(t, v, no) != page(want) {
			t.Errorf("page %d has other bytes", no)
		}
	}
	if s, err := Load(v, l, 600); err != api.OK || s != body {
		t.Errorf("Load: %d bytes, %d", len(s), err)
	}
	takenIs(t, give(t, v, l...), 0, 3)
}

// P14.1: bytes of each size and of all kinds, side by side and in pieces, loaded, committed, loaded again, and given back.
func TestTakeOfEachSize(t *testing.T) {
	for _, n := range sizes {
		for _, body := range []string{mixed(n, int64(n)), strings.Repeat("\x00", n), strings.Repeat("\xff", n)} {
			for _, pieces := range []bool{false, true} {
				empty := formatted(t, 16)
				v, l := take(t, empty, body, pieces)
				if !slices.Equal(l, span(1, need(n))) || len(v.Dirty) != 1+need(n) || v.Seq != empty.Seq || !slices.Equal(v.Disk.Sure, empty.Disk.Sure) {
					t.Fatalf("%d bytes are in %v, %d pages Dirty", n, l, len(v.Dirty))
				}
				bodyIs(t, v, l, body)
				takenIs(t, v, from(0, 1+need(n))...)
				u := reopened(t, v)
				bodyIs(t, u, l, body)
				takenIs(t, u, from(0, 1+need(n))...)
				u = give(t, u, l...)
				bodyIs(t, u, l, body)
				takenIs(t, u, 0)
			}
		}
	}
}

// P14.1: side by side they are in the first run that is long enough; in pieces, in the first free pages.
func TestWhichPages(t *testing.T) {
	v := marked(t, formatted(t, 24), "", 0, 2, 5, 6, 10, 15)
	for n, start := range []int{0, 1, 3, 7, 11, 16, 16, 16, 16} {
		if n == 0 {
			continue
		}
		body := mixed(208*n-50, int64(n))
		u, l := take(t, v, body, false)
		if !slices.Equal(l, span(start, n)) {
			t.Errorf("%d side by side are %v", n, l)
		}
		bodyIs(t, u, l, body)
	}
	free := []int{1, 3, 4, 7, 8, 9, 11, 12, 13, 14, 16, 17, 18, 19, 20, 21, 22, 23}
	for n := 1; n <= len(free); n++ {
		body := mixed(208*n-50, int64(n))
		u, l := take(t, v, body, true)
		if !slices.Equal(l, runsOf(free[:n]...)) {
			t.Errorf("%d in pieces are %v", n, l)
		}
		bodyIs(t, u, l, body)
		all := append([]int{0, 2, 5, 6, 10, 15}, free[:n]...)
		slices.Sort(all)
		takenIs(t, u, all...)
	}
}

// P14.1: pages take the new bytes alone: what they had behind them is gone.
func TestTakeOverOtherBytes(t *testing.T) {
	full := map[int]string{}
	for no := 1; no < 16; no++ {
		full[no] = strings.Repeat("\xff", 208)
	}
	v := committed(t, laid(t, formatted(t, 16), full))
	for _, n := range sizes {
		for _, pieces := range []bool{false, true} {
			u, l := take(t, v, mixed(n, 1), pieces)
			bodyIs(t, u, l, mixed(n, 1))
			for no := 1 + need(n); no < 16; no++ {
				if bytesOf(t, u, no) != full[no] {
					t.Fatalf("page %d, which is free, has other bytes", no)
				}
			}
		}
	}
}

// P14.1: page 0 is marked as taken, whatever it said; what it says besides stays, of pages that the vault hasn't, too.
func TestPage0(t *testing.T) {
	tail := mixed(144, 1)
	for _, pieces := range []bool{false, true} {
		v := marked(t, formatted(t, 16), tail, 3, 16, 504, 511)
		v, l := take(t, v, mixed(300, 2), pieces)
		if !slices.Equal(l, span(1, 2)) {
			t.Fatalf("they are in %v", l)
		}
		takenIs(t, v, 0, 1, 2, 3, 16, 504, 511)
		v = give(t, v, l...)
		takenIs(t, v, 0, 3, 16, 504, 511)
		if bytesOf(t, v, 0)[64:] != tail {
			t.Error("behind the pages' bits page 0 has other bytes")
		}
	}
}

// P14.1: of no bytes, and of no runs, nothing: not even page 0 is read.
func TestNothing(t *testing.T) {
	v, _ := take(t, formatted(t, 16), "a", false)
	full, _ := take(t, formatted(t, 16), mixed(208*15, 1), false)
	for _, u := range []api.Vault{formatted(t, 16), v, full, dead(v), spoilt(committed(t, v), 0), {}} {
		for _, pieces := range []bool{false, true} {
			if got, l, err := Take(u, "", pieces); err != api.OK || len(l) != 0 || !same(got, u) {
				t.Errorf("Take of no bytes: %v, %d", l, err)
			}
		}
		for _, l := range [][]api.Span{nil, {}} {
			if got, err := Give(u, l); err != api.OK || !same(got, u) {
				t.Errorf("Give of no runs: %d", err)
			}
			if s, err := Load(u, l, 0); err != api.OK || s != "" {
				t.Errorf("Load of no bytes: %q, %d", s, err)
			}
		}
	}
}

// P14.1: bytes of just as many pages as are free, and one more; they fit again behind a Give.
func TestSpace(t *testing.T) {
	for _, pages := range []int{16, 17, 512} {
		for _, pieces := range []bool{false, true} {
			empty := formatted(t, pages)
			most := 208 * (pages - 1)
			v, l := take(t, empty, mixed(most, 1), pieces)
			if !slices.Equal(l, span(1, pages-1)) {
				t.Fatalf("they are in %v", l)
			}
			bodyIs(t, v, l, mixed(most, 1))
			takenIs(t, v, from(0, pages)...)
			for _, n := range []int{most + 1, most + 208, most + 209, 208 * 600, 208*65536 + 1} {
				refused(t, empty, n, pieces, api.ErrSpace)
			}
			refused(t, v, 1, pieces, api.ErrSpace)
			v = give(t, v, api.Span{Start: 5, Len: 2})
			refused(t, v, 417, pieces, api.ErrSpace)
			v, l = take(t, v, mixed(416, 2), pieces)
			if !slices.Equal(l, span(5, 2)) {
				t.Fatalf("they are in %v", l)
			}
			bodyIs(t, v, l, mixed(416, 2))
			refused(t, v, 1, pieces, api.ErrSpace)
			takenIs(t, give(t, v, api.Span{Start: 1, Len: pages - 1}), 0)
		}
	}
}

// P14.1: bytes that fit in pieces, but not as one run; one more that doesn't fit at all.
func TestSpaceInPiecesAlone(t *testing.T) {
	v := marked(t, formatted(t, 16), "", 0, 2, 4, 7, 8, 12, 14, 15)
	u, l := take(t, v, mixed(208*3, 1), false)
	if !slices.Equal(l, span(9, 3)) {
		t.Errorf("three side by side are %v", l)
	}
	refused(t, u, 208*3, false, api.ErrSpace)
	refused(t, v, 208*3+1, false, api.ErrSpace)
	refused(t, v, 208*8, false, api.ErrSpace)
	u, l = take(t, v, mixed(208*8, 2), true)
	if !slices.Equal(l, runsOf(1, 3, 5, 6, 9, 10, 11, 13)) {
		t.Errorf("eight in pieces are %v", l)
	}
	bodyIs(t, u, l, mixed(208*8, 2))
	takenIs(t, u, from(0, 16)...)
	refused(t, v, 208*8+1, true, api.ErrSpace)
}

// P14.1: of a vault that isn't full, what stands beyond its pages is no room.
func TestNoRoomBeyondTheVault(t *testing.T) {
	v := marked(t, formatted(t, 20), "", from(0, 19)...)
	for _, pieces := range []bool{false, true} {
		refused(t, v, 209, pieces, api.ErrSpace)
		_, l := take(t, v, mixed(208, 1), pieces)
		if !slices.Equal(l, span(19, 1)) {
			t.Errorf("it is in %v", l)
		}
	}
}

// P14.1: just these runs' pages are marked as free, page 0 too, and page 0 alone is written; those that there aren't count for nothing, and what the pages have stays.
func TestGive(t *testing.T) {
	v, a := take(t, formatted(t, 16), mixed(1000, 1), false)
	v, b := take(t, v, mixed(500, 2), true)
	v = committed(t, v)
	for _, c := range []struct {
		l    []api.Span
		want []int
	}{
		{span(2, 1), []int{0, 1, 3, 4, 5, 6, 7, 8}},
		{[]api.Span{{Start: 7, Len: 1}, {Start: 2, Len: 3}, {Start: 3, Len: 3}}, []int{0, 1, 6, 8}},
		{span(9, 20), from(0, 9)},
		{span(5, 0), from(0, 9)},
		{span(5, -1), from(0, 9)},
		{span(0, 1), from(1, 8)},
		{span(-2, 5), []int{3, 4, 5, 6, 7, 8}},
		{span(-600, 2000), from(0, 9)},
		{span(4, math.MaxInt), from(0, 4)},
		{span(0, 512), nil},
	} {
		u := give(t, v, c.l...)
		takenIs(t, u, c.want...)
		bodyIs(t, u, a, mixed(1000, 1))
		bodyIs(t, u, b, mixed(500, 2))
		if len(u.Dirty) != 1 || u.Dirty[0].No != 0 {
			t.Errorf("%v: another page than page 0 was written, or it wasn't", c.l)
		}
	}
	for _, start := range wrong {
		for _, n := range []int{math.MinInt, -1, 0, 1} {
			takenIs(t, give(t, v, api.Span{Start: start, Len: n}), from(0, 9)...)
		}
	}
	full := laid(t, formatted(t, 16), map[int]string{0: strings.Repeat("\xff", 208)})
	takenIs(t, give(t, full, api.Span{Start: 20, Len: 1}, api.Span{Start: 511, Len: 2}), slices.Concat(from(0, 20), from(21, 490))...)
}

// P14.1: layer 12's errors: a Dead disk, whatever is asked of it but nothing.
func TestDeadDisk(t *testing.T) {
	v, l := take(t, formatted(t, 16), mixed(300, 1), false)
	for _, u := range []api.Vault{dead(v), dead(committed(t, v)), dead(formatted(t, 16))} {
		for _, n := range []int{1, 208, 208 * 100} {
			refused(t, u, n, false, api.ErrDown)
			refused(t, u, n, true, api.ErrDown)
		}
		unread(t, u, l, 300, api.ErrDown)
		for _, l := range [][]api.Span{l, span(0, 1), span(900, -1)} {
			if got, err := Give(u, l); err != api.ErrDown || !same(got, u) {
				t.Errorf("Give(%v): %d, want ErrDown and the vault as it was", l, err)
			}
		}
	}
}

// P14.1: a page whose sector is none of it is layer 12's ErrForm: of the bytes, wherever among them it stands, and page 0.
func TestSpoiltSectors(t *testing.T) {
	v, l := take(t, formatted(t, 16), mixed(600, 1), false)
	v, other := take(t, v, "other", true)
	v = committed(t, v)
	for no := 1; no <= 3; no++ {
		u := spoilt(v, no)
		unread(t, u, l, 600, api.ErrForm)
		bodyIs(t, u, other, "other")
		takenIs(t, give(t, u, l...), 0, 4)
	}
	u := spoilt(v, 0)
	bodyIs(t, u, l, mixed(600, 1))
	refused(t, u, 300, false, api.ErrForm)
	refused(t, u, 208*100, true, api.ErrForm)
	if got, err := Give(u, l); err != api.ErrForm || !same(got, u) {
		t.Errorf("Give: %d, want ErrForm and the vault as it was", err)
	}
}

// P14.1: of no vault there isn't even page 0.
func TestNoVault(t *testing.T) {
	var none api.Vault
	refused(t, none, 1, false, api.ErrArg)
	refused(t, none, 1, true, api.ErrArg)
	unread(t, none, span(0, 1), 1, api.ErrForm)
	if v, err := Give(none, span(1, 1)); err != api.ErrArg || !same(v, none) {
		t.Errorf("Give: %d", err)
	}
}
