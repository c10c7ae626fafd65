package chain

import (
	"encoding/binary"
	"math"
	"math/rand"
	"slices"
	"strings"
	"testing"

	"archivist/api"
	"archivist/vault"
)

// wrong are numbers of pages that no vault has.
var wrong = []int{math.MinInt, -1 << 32, -65536, -512, -16, -1, 512, 513, 65535, 65536, 1 << 31, 1 << 32, 1<<32 + 3, math.MaxInt}

// sizes are texts' lengths: none, few, and all about the ends of one page to seven.
var sizes = []int{0, 1, 2, 100, 203, 204, 205, 300, 407, 408, 409, 611, 612, 613, 816, 817, 1020, 1021, 1224, 1225}

// mixed is that many bytes of any kind, the same ones each time.
func mixed(n int, seed int64) string {
	b := make([]byte, n)
	rand.New(rand.NewSource(seed)).Read(b)
	return string(b)
}

// two is a number in two bytes.
func two(n int) string { return string(binary.BigEndian.AppendUint16(nil, uint16(n))) }

// page is a page's bytes, by the words of the chapter.
func page(next, has int, data string) string {
	s := two(next) + two(has) + data
	return s + strings.Repeat("\x00", 208-len(s))
}

// need is how many pages so many bytes take, counted one by one.
func need(size int) int {
	n := 1
	for size > 204 {
		n, size = n+1, size-204
	}
	return n
}

// from is pages one behind the other.
func from(first, n int) []int {
	var list []int
	for i := range n {
		list = append(list, first+i)
	}
	return list
}

func same(a, b api.Vault) bool {
	return slices.Equal(a.Disk.Sure, b.Disk.Sure) && slices.Equal(a.Disk.Wet, b.Disk.Wet) && a.Disk.Dead == b.Disk.Dead && a.Disk.Left == b.Disk.Left && a.Shape == b.Shape && a.Seq == b.Seq && slices.Equal(a.Dirty, b.Dirty)
}

func formatted(t *testing.T, pages int) api.Vault {
	t.Helper()
	v, err := vault.Format(pages, 256)
	if err != api.OK {
		t.Fatalf("Format(%d): %d", pages, err)
	}
	return v
}

// laid is a vault some of whose pages are to be these.
func laid(t *testing.T, v api.Vault, pages map[int]string) api.Vault {
	t.Helper()
	for no := range v.Shape.Pages {
		s, is := pages[no]
		if !is {
			continue
		}
		var err api.Errno
		if v, err = vault.Write(v, no, s); err != api.OK {
			t.Fatalf("Write(%d): %d", no, err)
		}
	}
	return v
}

func committed(t *testing.T, v api.Vault) api.Vault {
	t.Helper()
	v, err := vault.Commit(v)
	if err != api.OK {
		t.Fatalf("Commit: %d", err)
	}
	return v
}

// put puts a text, and tells where it begins; one that was there stays where it began.
func put(t *testing.T, v api.Vault, no int, text string) (api.Vault, int) {
	t.Helper()
	v, at, err := Put(v, no, text)
	if err != api.OK || at < 1 || no != 0 && at != no {
		t.Fatalf("Put(%d) of %d bytes: %d, %d", no, len(text), at, err)
	}
	return v, at
}

func dropped(t *testing.T, v api.Vault, no int) api.Vault {
	t.Helper()
	v, err := Drop(v, no)
	if err != api.OK {
		t.Fatalf("Drop(%d): %d", no, err)
	}
	return v
}

func freed(t *testing.T, v api.Vault, pages ...int) api.Vault {
	t.Helper()
	v, err := Free(v, pages)
	if err != api.OK {
		t.Fatalf("Free(%v): %d", pages, err)
	}
	return v
}

// bytesOf is a page's bytes.
func bytesOf(t *testing.T, v api.Vault, no int) string {
	t.Helper()
	s, err := vault.Read(v, no)
	if err != api.OK {
		t.Fatalf("Read(%d): %d", no, err)
	}
	return s
}

// taken is the pages that page 0 has as taken, of all 512, read bit by bit.
func taken(t *testing.T, v api.Vault) []int {
	t.Helper()
	map0 := bytesOf(t, v, 0)
	var list []int
	for no := range 512 {
		if map0[no/8]>>(7-no%8)&1 == 1 {
			list = append(list, no)
		}
	}
	return list
}

func takenIs(t *testing.T, v api.Vault, want ...int) {
	t.Helper()
	if got := taken(t, v); !slices.Equal(got, want) {
		t.Errorf("taken are %v, want %v", got, want)
	}
}

// textIs checks a text's pages, and each one's bytes by the words of the chapter: all but the last one are full, and the last one's next is 0.
func textIs(t *testing.T, v api.Vault, pages []int, text string) {
	t.Helper()
	got, s, err := Walk(v, pages[0])
	if err != api.OK || s != text || !slices.Equal(got, pages) {
		t.Fatalf("Walk(%d): pages %v, %d bytes, %d; want %v, %d bytes", pages[0], got, len(s), err, pages, len(text))
	}
	for i, no := range pages {
		part := text[204*i:]
		next := 0
		if i+1 < len(pages) {
			next, part = pages[i+1], part[:204]
		}
		if bytesOf(t, v, no) != page(next, len(part), part) {
			t.Fatalf("page %d, the text's number %d, isn't as the chapter says", no, i)
		}
	}
}

// refused checks that a text's page is none to Walk, Drop and Put, that nothing is answered with it, and that the vault is as it was.
func refused(t *testing.T, what string, v api.Vault, no int, want api.Errno) {
	t.Helper()
	if pages, s, err := Walk(v, no); err != want || len(pages) != 0 || s != "" {
		t.Errorf("%s: Walk(%d): %v, %d bytes, %d, want %d", what, no, pages, len(s), err, want)
	}
	if got, err := Drop(v, no); err != want || !same(got, v) {
		t.Errorf("%s: Drop(%d): %d, want %d and the vault as it was", what, no, err, want)
	}
	if no == 0 {
		return
	}
	if got, at, err := Put(v, no, "text"); err != want || at != 0 || !same(got, v) {
		t.Errorf("%s: Put(%d): %d, %d, want %d and the vault as it was", what, no, at, err, want)
	}
}

// P13.1: a page's bytes less two numbers; each size, and the ends of what an int holds.
func TestMostAndNeed(t *testing.T) {
	if Most() != 204 {
		t.Errorf("Most: %d", Most())
	}
	for _, c := range []struct{ size, want int }{
		{math.MinInt, 1}, {-205, 1}, {-1, 1}, {0, 1}, {1, 1}, {203, 1}, {204, 1}, {205, 2}, {300, 2}, {408, 2}, {409, 3}, {612, 3}, {613, 4},
		{1500, 8}, {1 << 32, 21053762}, {204 << 50, 1 << 50}, {204<<50 + 1, 1<<50 + 1}, {math.MaxInt - 127, 45212608023797920}, {math.MaxInt - 126, 45212608023797921}, {math.MaxInt, 45212608023797921},
	} {
		if got := Need(c.size); got != c.want {
			t.Errorf("Need(%d): %d, want %d", c.size, got, c.want)
		}
	}
	for size := range 5000 {
		if got := Need(size); got != need(size) {
			t.Errorf("Need(%d): %d, want %d", size, got, need(size))
		}
	}
}

// P13.1: the chapter's example, byte by byte: put, walked, put again longer and shorter, dropped.
func TestExample(t *testing.T) {
	text := mixed(300, 1)
	v, at := put(t, formatted(t, 16), 0, text)
	if at != 1 || bytesOf(t, v, 1) != "\x00\x02\x00\xcc"+text[:204] || bytesOf(t, v, 2) != "\x00\x00\x00\x60"+text[204:]+strings.Repeat("\x00", 108) {
		t.Errorf("it begins at %d, or its two pages have other bytes", at)
	}
	if bytesOf(t, v, 0) != "\xe0"+strings.Repeat("\x00", 207) {
		t.Error("page 0 isn't as the chapter says")
	}
	textIs(t, v, []int{1, 2}, text)
	v, _ = put(t, v, 1, mixed(500, 2))
	textIs(t, v, []int{1, 2, 3}, mixed(500, 2))
	takenIs(t, v, 0, 1, 2, 3)
	v, _ = put(t, v, 1, "short")
	textIs(t, v, []int{1}, "short")
	takenIs(t, v, 0, 1)
	takenIs(t, dropped(t, v, 1), 0)
}

// P13.1: texts of each size, of bytes of all kinds, committed too.
func TestPutOfEachSize(t *testing.T) {
	for _, n := range append(slices.Clone(sizes), 1500, 2000) {
		for _, text := range []string{mixed(n, int64(n)), strings.Repeat("\x00", n), strings.Repeat("\xff", n)} {
			empty := formatted(t, 16)
			v, at := put(t, empty, 0, text)
			pages := from(1, need(n))
			textIs(t, v, pages, text)
			takenIs(t, v, from(0, 1+len(pages))...)
			if at != 1 || len(v.Dirty) != 1+len(pages) || v.Seq != empty.Seq || !slices.Equal(v.Disk.Sure, empty.Disk.Sure) {
				t.Fatalf("%d bytes begin at %d, %d pages Dirty", n, at, len(v.Dirty))
			}
			u, _, err := vault.Open(committed(t, v).Disk)
			if err != api.OK {
				t.Fatalf("Open: %d", err)
			}
			textIs(t, u, pages, text)
			takenIs(t, u, from(0, 1+len(pages))...)
			takenIs(t, dropped(t, u, at), 0)
		}
	}
}

// P13.1, P13.2: each size over each: the old pages as far as they are needed, then the first free ones, round a text that stands in between; those not needed are free.
func TestPutOverEachSize(t *testing.T) {
	for _, n := range sizes {
		base, a := put(t, formatted(t, 32), 0, mixed(n, 1))
		base, b := put(t, base, 0, "between")
		base, c := put(t, base, 0, mixed(700, 2))
		base, d := put(t, base, 0, "behind")
		base = committed(t, dropped(t, base, c))
		had := from(1, need(n))
		free := append(from(c, 4), from(d+1, 8)...)
		for _, m := range sizes {
			v, _ := put(t, base, a, mixed(m, 3))
			want := slices.Concat(had, free)[:need(m)]
			if need(m) < len(had) {
				want = had[:need(m)]
			}
			textIs(t, v, want, mixed(m, 3))
			textIs(t, v, []int{b}, "between")
			textIs(t, v, []int{d}, "behind")
			all := append([]int{0, b, d}, want...)
			slices.Sort(all)
			takenIs(t, v, all...)
			textIs(t, base, had, mixed(n, 1))
		}
	}
}

// P13.1: a text over itself writes what stood there, and page 0, too.
func TestPutOfTheSame(t *testing.T) {
	v, a := put(t, formatted(t, 16), 0, mixed(300, 1))
	v = committed(t, v)
	u, _ := put(t, v, a, mixed(300, 1))
	if len(u.Dirty) != 3 {
		t.Errorf("%d pages Dirty, want 3", len(u.Dirty))
	}
	for no := range 16 {
		if bytesOf(t, u, no) != bytesOf(t, v, no) {
			t.Errorf("page %d has other bytes", no)
		}
	}
	short, _ := put(t, v, a, "short")
	if bytesOf(t, short, 1) != page(0, 5, "short") || bytesOf(t, short, 2) != bytesOf(t, v, 2) {
		t.Error("a shorter text: its page has something behind it, or the one that is free now has changed")
	}
}

// P13.1: pages that are free behind a Drop, or a shorter text, are the next ones to be taken, the first ones first.
func TestPagesComeAgain(t *testing.T) {
	v, a := put(t, formatted(t, 16), 0, mixed(600, 1))
	v, b := put(t, v, 0, mixed(400, 2))
	v, c := put(t, v, 0, "c")
	v, _ = put(t, v, a, "a")
	v = dropped(t, v, c)
	takenIs(t, v, 0, 1, 4, 5)
	v, d := put(t, v, 0, mixed(1000, 3))
	textIs(t, v, []int{2, 3, 6, 7, 8}, mixed(1000, 3))
	v, _ = put(t, v, b, mixed(500, 4))
	textIs(t, v, []int{4, 5, 9}, mixed(500, 4))
	v = dropped(t, v, d)
	v, _ = put(t, v, b, mixed(900, 5))
	textIs(t, v, []int{4, 5, 9, 2, 3}, mixed(900, 5))
	textIs(t, v, []int{1}, "a")
	takenIs(t, v, 0, 1, 2, 3, 4, 5, 9)
	v, _ = put(t, v, b, mixed(409, 6))
	textIs(t, v, []int{4, 5, 9}, mixed(409, 6))
	v, _ = put(t, v, b, "")
	textIs(t, v, []int{4}, "")
	takenIs(t, v, 0, 1, 4)
}

// P13.1: what page 0 says besides stays; it is marked as taken, whatever it said.
func TestPage0(t *testing.T) {
	marks := make([]byte, 64)
	marks[2], marks[63] = 0xa5, 0x80
	for _, tail := range []string{"", two(300) + mixed(142, 1)} {
		map0 := string(marks) + tail + strings.Repeat("\x00", 144-len(tail))
		base := laid(t, formatted(t, 40), map[int]string{0: map0})
		v, at := put(t, base, 0, mixed(204*18, 2))
		if at != 1 {
			t.Fatalf("it begins at %d", at)
		}
		textIs(t, v, []int{1, 2, 3, 4, 5, 6, 7, 8, 9, 10, 11, 12, 13, 14, 15, 17, 19, 20}, mixed(204*18, 2))
		takenIs(t, v, slices.Concat(from(0, 22), []int{23, 504})...)
		v, _ = put(t, v, at, "short")
		takenIs(t, v, 0, 1, 16, 18, 21, 23, 504)
		v = dropped(t, v, at)
		takenIs(t, v, 0, 16, 18, 21, 23, 504)
		if got := bytesOf(t, v, 0); got[64:] != map0[64:] {
			t.Error("behind the pages' bits page 0 has other bytes")
		}
	}
}

// P13.1: just these are marked as free, page 0 too; those that there aren't count for nothing; what the pages have stays.
func TestFree(t *testing.T) {
	v, a := put(t, formatted(t, 16), 0, mixed(1000, 1))
	v, b := put(t, v, 0, mixed(500, 2))
	v = committed(t, v)
	for _, c := range []struct{ pages, want []int }{
		{nil, from(0, 9)},
		{[]int{2}, []int{0, 1, 3, 4, 5, 6, 7, 8}},
		{[]int{8, 3, 3, 5}, []int{0, 1, 2, 4, 6, 7}},
		{[]int{15, 9}, from(0, 9)},
		{[]int{0}, from(1, 8)},
		{[]int{0, 3, 900}, []int{1, 2, 4, 5, 6, 7, 8}},
		{wrong, from(0, 9)},
		{append(from(1, 8), wrong...), []int{0}},
		{from(-600, 2000), nil},
	} {
		u := freed(t, v, c.pages...)
		takenIs(t, u, c.want...)
		textIs(t, u, from(a, 5), mixed(1000, 1))
		textIs(t, u, from(b, 3), mixed(500, 2))
		if len(u.Dirty) != 1 || u.Dirty[0].No != 0 || u.Dirty[0].Data[64:] != bytesOf(t, v, 0)[64:] {
			t.Errorf("%v: more than page 0's bits was written, or it wasn't", c.pages)
		}
	}
	full := laid(t, formatted(t, 16), map[int]string{0: strings.Repeat("\xff", 208)})
	takenIs(t, freed(t, full, 20, 511, 512, -1), slices.DeleteFunc(from(0, 512), func(no int) bool { return no == 20 || no == 511 })...)
}

// P13.1: a text that takes just as many pages as are free, and one more.
func TestSpace(t *testing.T) {
	for _, pages := range []int{16, 17, 512} {
		empty := formatted(t, pages)
		most := 204 * (pages - 1)
		v, at := put(t, empty, 0, mixed(most, 1))
		textIs(t, v, from(1, pages-1), mixed(most, 1))
		takenIs(t, v, from(0, pages)...)
		for _, n := range []int{most + 1, most + 204, most + 205, 204 * 600, 204*65536 + 1} {
			noSpace(t, empty, 0, n)
			noSpace(t, v, at, n)
		}
		noSpace(t, v, 0, 0)
		noSpace(t, v, 0, 1)
		v, _ = put(t, v, at, mixed(most-204, 2))
		textIs(t, v, from(1, pages-2), mixed(most-204, 2))
		v, last := put(t, v, 0, mixed(204, 3))
		textIs(t, v, []int{pages - 1}, mixed(204, 3))
		noSpace(t, v, last, 205)
		noSpace(t, v, at, most-203)
		v = dropped(t, v, last)
		v, _ = put(t, v, at, mixed(most, 4))
		textIs(t, v, from(1, pages-1), mixed(most, 4))
	}
}

// noSpace checks that there is none for so many bytes, and that all is as it was.
func noSpace(t *testing.T, v api.Vault, no, n int) {
	t.Helper()
	if got, at, err := Put(v, no, mixed(n, 9)); err != api.ErrSpace || at != 0 || !same(got, v) {
		t.Errorf("Put(%d) of %d bytes: %d, %d, want ErrSpace and the vault as it was", no, n, at, err)
	}
}

// P13.1: a text's own pages count, besides those that are free.
func TestSpaceOfItsOwn(t *testing.T) {
	v, a := put(t, formatted(t, 16), 0, mixed(204*5, 1))
	v, b := put(t, v, 0, mixed(204*8, 2))
	v, _ = put(t, v, 0, "c")
	noSpace(t, v, a, 204*6+1)
	u, _ := put(t, v, a, mixed(204*6, 3))
	textIs(t, u, []int{1, 2, 3, 4, 5, 15}, mixed(204*6, 3))
	noSpace(t, v, b, 204*9+1)
	u, _ = put(t, v, b, mixed(204*9, 4))
	textIs(t, u, append(from(6, 8), 15), mixed(204*9, 4))
}

// P13.1: page 0 begins no text, of whatever vault; to Put it is no text that there was.
func TestWalkOfPage0(t *testing.T) {
	v, _ := put(t, formatted(t, 16), 0, "a")
	dead := v
	dead.Disk.Dead = true
	for _, u := range []api.Vault{v, dead, laid(t, v, map[int]string{0: page(0, 3, "abc")}), {}} {
		refused(t, "page 0", u, 0, api.ErrArg)
	}
}

// P13.1: pages that there aren't, at the beginning or behind others; a Dead disk changes nothing of that.
func TestPagesThatThereAreNot(t *testing.T) {
	for _, pages := range []int{16, 300, 512} {
		v := laid(t, formatted(t, pages), map[int]string{0: "\xf0", 1: page(2, 3, "abc"), 3: page(0, 3, "end")})
		dead := v
		dead.Disk.Dead = true
		for _, no := range append(slices.Clone(wrong), pages, pages+1) {
			refused(t, "no such page", v, no, api.ErrForm)
			refused(t, "no such page of a Dead one", dead, no, api.ErrForm)
			if no < 0 || no > 65535 {
				continue
			}
			u := laid(t, v, map[int]string{2: page(no, 3, "def")})
			refused(t, "no such page next", u, 2, api.ErrForm)
			refused(t, "no such page next but one", u, 1, api.ErrForm)
		}
		walksTo(t, laid(t, v, map[int]string{2: page(pages-1, 3, "def")}), []int{1, 2, pages - 1}, "abcdef")
	}
	refused(t, "no vault", api.Vault{}, 1, api.ErrForm)
}

// walksTo checks a text alone: its pages may have fewer bytes than they could.
func walksTo(t *testing.T, v api.Vault, pages []int, text string) {
	t.Helper()
	got, s, err := Walk(v, pages[0])
	if err != api.OK || s != text || !slices.Equal(got, pages) {
		t.Errorf("Walk(%d): %v, %q, %d; want %v, %q", pages[0], got, s, err, pages, text)
	}
}

// P13.1: pages that tell of more bytes than a page may have.
func TestPagesOfTooMany(t *testing.T) {
	full := mixed(204, 1)
	for _, has := range []int{205, 206, 207, 208, 209, 255, 256, 1000, 32767, 32768, 65535} {
		for _, next := range []int{0, 1, 3} {
			v := laid(t, formatted(t, 16), map[int]string{0: "\xf0", 1: page(2, 204, full), 2: page(next, has, full), 3: page(0, 0, "")})
			refused(t, "too many", v, 2, api.ErrForm)
			refused(t, "too many behind one", v, 1, api.ErrForm)
		}
	}
	v := laid(t, formatted(t, 16), map[int]string{0: "\xe0", 1: page(2, 204, full), 2: page(0, 204, full)})
	textIs(t, v, []int{1, 2}, full+full)
}

// P13.1: what the words don't rule out is a text: pages of fewer bytes than may be, of none, with something behind their bytes, and pages that were never written.
func TestOddTexts(t *testing.T) {
	v := laid(t, formatted(t, 16), map[int]string{
		0: "\xfe", 1: page(5, 0, ""), 5: page(2, 3, "abc and more"), 2: page(6, 0, strings.Repeat("\xff", 204)), 6: page(3, 204, mixed(204, 1)), 3: page(4, 1, "d"),
	})
	walksTo(t, v, []int{1, 5, 2, 6, 3, 4}, "abc"+mixed(204, 1)+"d")
	walksTo(t, v, []int{9}, "")
	u, _ := put(t, v, 1, mixed(500, 2))
	textIs(t, u, []int{1, 5, 2}, mixed(500, 2))
	takenIs(t, u, 0, 1, 2, 5)
	takenIs(t, dropped(t, v, 1), 0)
	takenIs(t, dropped(t, v, 2), 0, 1, 5)
}

// P13.1: chains that come back to themselves, to any page of theirs, short ones and as long as there are pages; one of all pages is a text.
func TestChainsThatComeBack(t *testing.T) {
	for _, pages := range []int{16, 512} {
		for _, n := range []int{1, 2, 3, 7, pages - 2, pages - 1} {
			chain := map[int]string{}
			for no := 1; no < n; no++ {
				chain[no] = page(no+1, 1, "x")
			}
			for _, back := range []int{1, 2, n/2 + 1, n - 1, n} {
				if back < 1 || back > n {
					continue
				}
				chain[n] = page(back, 1, "x")
				v := laid(t, formatted(t, pages), chain)
				refused(t, "it comes back", v, 1, api.ErrForm)
				refused(t, "it comes back", v, n, api.ErrForm)
			}
			chain[n] = page(0, 1, "x")
			walksTo(t, laid(t, formatted(t, pages), chain), from(1, n), strings.Repeat("x", n))
		}
	}
}

// Rule 5: a raw vault that says it has any number of pages, and a chain that comes back: it ends.
func TestChainThatComesBackInARawVault(t *testing.T) {
	v := laid(t, formatted(t, 16), map[int]string{1: page(2, 1, "x"), 2: page(1, 1, "y")})
	v.Shape.Pages = math.MaxInt
	refused(t, "it comes back", v, 1, api.ErrForm)
}

// P13.1: layer 12's errors: a Dead disk, whatever is asked of it but page 0's text and pages that there aren't.
func TestDeadDisk(t *testing.T) {
	v, a := put(t, formatted(t, 16), 0, mixed(300, 1))
	for _, dead := range []api.Vault{v, committed(t, v), formatted(t, 16)} {
		dead.Disk.Dead = true
		refused(t, "Dead", dead, a, api.ErrDown)
		refused(t, "Dead", dead, 15, api.ErrDown)
		for _, n := range []int{0, 1, 204 * 100} {
			if got, at, err := Put(dead, 0, mixed(n, 2)); err != api.ErrDown || at != 0 || !same(got, dead) {
				t.Errorf("Put of %d bytes: %d, %d, want ErrDown and the vault as it was", n, at, err)
			}
		}
		for _, pages := range [][]int{nil, {1}, {0, 900}} {
			if got, err := Free(dead, pages); err != api.ErrDown || !same(got, dead) {
				t.Errorf("Free(%v): %d, want ErrDown and the vault as it was", pages, err)
			}
		}
	}
}

// P13.1: a page whose sector is none of it is layer 12's ErrForm, wherever in a text it stands; so is page 0.
func TestSpoiltSectors(t *testing.T) {
	v, a := put(t, formatted(t, 16), 0, mixed(600, 1))
	v, b := put(t, v, 0, "b")
	v = committed(t, v)
	spoilt := func(no int) api.Vault {
		u := v
		u.Disk.Sure = slices.Clone(v.Disk.Sure)
		u.Disk.Sure[1+256+no] = strings.Repeat("\xff", 256)
		return u
	}
	for no := 1; no <= 3; no++ {
		u := spoilt(no)
		refused(t, "spoilt", u, a, api.ErrForm)
		textIs(t, u, []int{b}, "b")
		takenIs(t, dropped(t, u, b), 0, 1, 2, 3)
	}
	u := spoilt(0)
	textIs(t, u, []int{1, 2, 3}, mixed(600, 1))
	if got, err := Drop(u, a); err != api.ErrForm || !same(got, u) {
		t.Errorf("Drop: %d, want ErrForm and the vault as it was", err)
	}
	for _, no := range []int{0, a, b} {
		if got, at, err := Put(u, no, mixed(300, 2)); err != api.ErrForm || at != 0 || !same(got, u) {
			t.Errorf("Put(%d): %d, %d, want ErrForm and the vault as it was", no, at, err)
		}
	}
	if got, err := Free(u, []int{2}); err != api.ErrForm || !same(got, u) {
		t.Errorf("Free: %d, want ErrForm and the vault as it was", err)
	}
}

// P13.1: of no vault there isn't even page 0.
func TestNoVault(t *testing.T) {
	var none api.Vault
	if v, at, err := Put(none, 0, "x"); err != api.ErrArg || at != 0 || !same(v, none) {
		t.Errorf("Put: %d, %d", at, err)
	}
	if v, err := Free(none, []int{1}); err != api.ErrArg || !same(v, none) {
		t.Errorf("Free: %d", err)
	}
}
