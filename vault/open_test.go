package vault

import (
	"fmt"
	"math"
	"math/rand"
	"strings"
	"testing"

	"archivist/api"
	"archivist/disk"
)

// entryOf reads a sector of the journal by chapter 10's words.
func entryOf(s string) (api.Entry, bool) {
	if len(s) != 256 || sum(s[:252]) != s[252:] {
		return api.Entry{}, false
	}
	number := func(s string) int {
		n := 0
		for _, b := range []byte(s) {
			n = n<<8 | int(b)
		}
		return n
	}
	x := api.Entry{Seq: number(s[4:8]), Index: number(s[8:10]), Last: s[:4] == "JEND", No: number(s[10:12])}
	rest := s[12:252]
	if !x.Last {
		x.Data, rest = rest[:208], rest[208:]
	}
	is := (x.Last || s[:4] == "JPAG") && x.Seq >= 1 && x.Seq < 1<<31 && x.Index < 256 && x.No < 512 && rest == blank(len(rest))
	return x, is
}

// pagesOf is the pages that the journal has whole, by the chapter's words.
func pagesOf(journal []string, pages int) []api.Leaf {
	first, _ := entryOf(journal[0])
	var list []api.Leaf
	for i, s := range journal {
		x, is := entryOf(s)
		switch {
		case !is || x.Seq != first.Seq || x.Index != i:
			return nil
		case x.Last && x.No == i:
			return list
		case x.Last || x.No >= pages:
			return nil
		}
		list = append(list, api.Leaf{No: x.No, Data: x.Data})
	}
	return nil
}

// openedIs holds an Open of a disk with power, with 16 pages and a journal of 8 sectors, against the chapter's words.
func openedIs(t *testing.T, what string, d api.Disk) {
	t.Helper()
	greatest := 0
	for _, s := range d.Sure[1:9] {
		if x, is := entryOf(s); is {
			greatest = max(greatest, x.Seq)
		}
	}
	if greatest == math.MaxInt32 {
		refused(t, what, d, api.ErrCorrupt)
		return
	}
	sectors := map[int]string{}
	for _, p := range pagesOf(d.Sure[1:9], 16) {
		sectors[9+p.No] = home(p.No, p.Data)
	}
	want := api.Vault{Disk: laid(d, sectors), Shape: api.Shape{Pages: 16, Journal: 8}, Seq: greatest + 1}
	if v := opened(t, d); !same(v, want) {
		t.Errorf("%s: Seq %d, want %d, or another disk", what, v.Seq, want.Seq)
	}
	if v := opened(t, want.Disk); !same(v, want) {
		t.Errorf("%s: opened again, it is another vault", what)
	}
}

// P12.1: disks that are none, of another size, without a shape.
func TestOpenOfNoStore(t *testing.T) {
	refused(t, "no disk", api.Disk{}, api.ErrCorrupt)
	refused(t, "no sectors", api.Disk{Left: -1}, api.ErrCorrupt)
	refused(t, "no sectors, and what one is to be", api.Disk{Wet: []api.Wet{{At: 0, Data: shapeSector(16, 8)}}, Left: -1}, api.ErrCorrupt)
	for _, shape := range []api.Shape{{Pages: 16, Journal: 8}, {Pages: 512, Journal: 256}, {Pages: 100, Journal: 50}} {
		size := 1 + shape.Pages + shape.Journal
		for n := 1; n < 800; n++ {
			d, _ := disk.New(n)
			refused(t, "noughts", d, api.ErrCorrupt)
			d = laid(d, map[int]string{0: shapeSector(shape.Pages, shape.Journal)})
			if n == size {
				opened(t, d)
			} else {
				refused(t, fmt.Sprintf("%+v on %d sectors", shape, n), d, api.ErrCorrupt)
			}
		}
	}
}

// P12.1: first sectors that are no shape's.
func TestOpenOfOtherFirstSectors(t *testing.T) {
	v := committed(t, written(t, formatted(t, 16, 8), 3, "ab"))
	good := shapeSector(16, 8)
	bad := []string{"", blank(256), good[:255], good + "\x00", mixed(256, 1), shapeSector(15, 9), shapeSector(17, 7), shapeSector(8, 16), shapeSector(16, 9), shapeSector(17, 8), shapeSector(0, 24), home(0, page("")), pageEntry(1, 0, 0, page("")), lastEntry(1, 0, 0)}
	for at := range 256 {
		for _, with := range []byte{1, 0x80, 0xff} {
			b := []byte(good)
			b[at] ^= with
			bad = append(bad, string(b))
		}
	}
	for _, s := range bad {
		refused(t, fmt.Sprintf("sector 0 is %q", s), laid(v.Disk, map[int]string{0: s}), api.ErrCorrupt)
	}
	// Another shape of the same size: its journal's sectors and places are others, where there is nothing of the kind.
	d := laid(v.Disk, map[int]string{0: shapeSector(16-1, 8+1)})
	refused(t, "15 pages", d, api.ErrCorrupt)
	v = formatted(t, 17, 8)
	v.Disk = laid(v.Disk, map[int]string{0: shapeSector(16, 9)})
	if u := opened(t, v.Disk); u.Shape != (api.Shape{Pages: 16, Journal: 9}) || u.Seq != 1 {
		t.Errorf("%+v, Seq %d", u.Shape, u.Seq)
	}
}

// P12.1: a disk that is Dead tells ErrDown, whatever stands on it.
func TestOpenOfDeadDisk(t *testing.T) {
	v := committed(t, written(t, formatted(t, 16, 8), 3, "ab"))
	for what, sectors := range map[string]map[int]string{
		"a store": nil, "no shape": {0: blank(256)}, "too great a Seq": {5: pageEntry(math.MaxInt32, 4, 3, page(""))}, "nothing": {0: "", 1: "", 12: ""},
	} {
		for _, left := range []int{-1, 0, 7} {
			d := laid(v.Disk, sectors)
			d.Dead, d.Left = true, left
			refused(t, what, d, api.ErrDown)
		}
	}
}

// P12.1: Seq is one more than the greatest of any entry, wherever in the journal it stands, whole or not.
func TestSeqOfOpen(t *testing.T) {
	base := []string{pageEntry(5, 0, 2, page("two")), pageEntry(5, 1, 3, page("three")), lastEntry(5, 2, 2)}
	for _, seq := range []int{1, 2, 4, 5, 6, 255, 256, 65536, 1<<31 - 3, 1<<31 - 2, 1<<31 - 1} {
		for at := range 8 {
			for _, s := range []string{pageEntry(seq, at, 3, page("x")), pageEntry(seq, 255, 511, page("x")), lastEntry(seq, at, at), lastEntry(seq, 0, 511)} {
				for _, journal := range [][]string{{"", "", "", "", "", "", "", ""}, append(base, "", "", "", "", "")} {
					d := with16(t, journal...)
					d.Sure[1+at] = s
					want := seq
					if journal[0] != "" {
						want = max(seq, 5)
					}
					if seq == math.MaxInt32 {
						refused(t, fmt.Sprint("Seq 2^31 less 1 in sector ", at), d, api.ErrCorrupt)
					} else if v := opened(t, d); v.Seq != want+1 {
						t.Errorf("Seq %d in sector %d: %d, want %d", seq, at, v.Seq, want+1)
					}
					openedIs(t, fmt.Sprintf("Seq %d in sector %d", seq, at), d)
				}
			}
		}
	}
}

// P12.1: what is no entry, and what doesn't stand in the journal, has no Seq.
func TestSeqOfOthers(t *testing.T) {
	greatest := pageEntry(math.MaxInt32, 0, 3, page("x"))
	spoilt := []byte(greatest)
	spoilt[100] ^= 4
	for _, s := range []string{string(spoilt), pageEntry(1<<31, 0, 3, page("x")), pageEntry(0, 0, 3, page("x")), lastEntry(1<<32-1, 0, 0), pageEntry(math.MaxInt32, 256, 3, page("x")), pageEntry(math.MaxInt32, 0, 512, page("x")), sealed("JPAF" + greatest[4:252]), home(3, page(greatest[:208])), greatest[:255], greatest + "\x00"} {
		d := with16(t, pageEntry(5, 0, 2, page("two")), lastEntry(5, 1, 1))
		d.Sure[1+6] = s
		if v := opened(t, d); v.Seq != 6 {
			t.Errorf("%q: Seq %d", s, v.Seq)
		}
		openedIs(t, "no entry", d)
	}
	d := with16(t)
	d.Sure[9+2], d.Sure[9+15] = greatest, greatest
	v := opened(t, d)
	if v.Seq != 1 {
		t.Errorf("an entry in a page's place: Seq %d", v.Seq)
	}
	if _, err := Read(v, 2); err != api.ErrForm {
		t.Errorf("an entry in a page's place: %d", err)
	}
}

// P12.1: the greatest Seq that is opened has its transaction; behind that there is none.
func TestGreatestSeq(t *testing.T) {
	v := opened(t, with16(t, lastEntry(1<<31-3, 0, 0)))
	for _, want := range []int{1<<31 - 2, 1<<31 - 1} {
		v = committed(t, written(t, opened(t, v.Disk), 3, "ab"))
		if v.Seq != want+1 || v.Disk.Sure[1] != pageEntry(want, 0, 3, page("ab")) || v.Disk.Sure[2] != lastEntry(want, 1, 1) {
			t.Errorf("Seq %d behind transaction %d, or other sectors", v.Seq, want)
		}
	}
	refused(t, "transaction 2^31 less 1", v.Disk, api.ErrCorrupt)
}

// P12.1: journals that have a transaction whole, and those that miss something.
func TestJournals(t *testing.T) {
	a, b, c := page("new a"), page("new b"), page("new c")
	cases := []struct {
		what    string
		journal []string
		whole   bool
	}{
		{"one page", []string{pageEntry(5, 0, 2, a), lastEntry(5, 1, 1)}, true},
		{"three pages", []string{pageEntry(5, 0, 2, a), pageEntry(5, 1, 9, b), pageEntry(5, 2, 15, c), lastEntry(5, 3, 3)}, true},
		{"and others behind", []string{pageEntry(5, 0, 2, a), lastEntry(5, 1, 1), pageEntry(9, 2, 3, c), lastEntry(4, 3, 3), mixed(256, 1)}, true},
		{"and a second last one", []string{pageEntry(5, 0, 2, a), lastEntry(5, 1, 1), lastEntry(5, 2, 2)}, true},
		{"as many as there are sectors, less one", []string{pageEntry(5, 0, 2, a), pageEntry(5, 1, 3, a), pageEntry(5, 2, 4, a), pageEntry(5, 3, 5, a), pageEntry(5, 4, 6, a), pageEntry(5, 5, 7, a), pageEntry(5, 6, 8, a), lastEntry(5, 7, 7)}, true},
		{"Seq 1", []string{pageEntry(1, 0, 2, a), lastEntry(1, 1, 1)}, true},
		{"Seq 2^31 less 2", []string{pageEntry(1<<31-2, 0, 2, a), lastEntry(1<<31-2, 1, 1)}, true},
		{"nothing", nil, false},
		{"no page", []string{lastEntry(5, 0, 0)}, false},
		{"no page, and pages behind", []string{lastEntry(5, 0, 0), pageEntry(5, 1, 2, a), lastEntry(5, 2, 2)}, false},
		{"no page, and pages behind that begin anew", []string{lastEntry(4, 0, 0), pageEntry(5, 0, 2, a), lastEntry(5, 1, 1)}, false},
		{"another Seq", []string{pageEntry(5, 0, 2, a), pageEntry(4, 1, 3, b), lastEntry(5, 2, 2)}, false},
		{"a first one of another Seq", []string{pageEntry(6, 0, 2, a), pageEntry(5, 1, 3, b), lastEntry(5, 2, 2)}, false},
		{"a last one of another Seq", []string{pageEntry(5, 0, 2, a), lastEntry(6, 1, 1)}, false},
		{"a last one of an elder Seq", []string{pageEntry(5, 0, 2, a), lastEntry(4, 1, 1)}, false},
		{"another Index", []string{pageEntry(5, 0, 2, a), pageEntry(5, 2, 3, b), lastEntry(5, 2, 2)}, false},
		{"a first one of another Index", []string{pageEntry(5, 1, 2, a), lastEntry(5, 1, 1)}, false},
		{"a last one of another Index", []string{pageEntry(5, 0, 2, a), lastEntry(5, 2, 1)}, false},
		{"a last one of Index 0", []string{pageEntry(5, 0, 2, a), lastEntry(5, 0, 1)}, false},
		{"all of them one on", []string{"", pageEntry(5, 0, 2, a), lastEntry(5, 1, 1)}, false},
		{"all of them one on, by their Index too", []string{blank(256), pageEntry(5, 1, 2, a), lastEntry(5, 2, 2)}, false},
		{"page 16", []string{pageEntry(5, 0, 2, a), pageEntry(5, 1, 16, b), lastEntry(5, 2, 2)}, false},
		{"page 511", []string{pageEntry(5, 0, 511, a), lastEntry(5, 1, 1)}, false},
		{"a last one with too small a number", []string{pageEntry(5, 0, 2, a), pageEntry(5, 1, 3, b), lastEntry(5, 2, 1)}, false},
		{"a last one with too great a number", []string{pageEntry(5, 0, 2, a), lastEntry(5, 1, 2)}, false},
		{"a last one with 0", []string{pageEntry(5, 0, 2, a), lastEntry(5, 1, 0)}, false},
		{"a first last one with 1", []string{lastEntry(5, 0, 1)}, false},
		{"a last one with another number, and a better one behind", []string{pageEntry(5, 0, 2, a), lastEntry(5, 1, 2), lastEntry(5, 2, 2)}, false},
		{"none that is the last one", []string{pageEntry(5, 0, 2, a), pageEntry(5, 1, 3, b)}, false},
		{"pages alone", []string{pageEntry(5, 0, 2, a), pageEntry(5, 1, 3, a), pageEntry(5, 2, 4, a), pageEntry(5, 3, 5, a), pageEntry(5, 4, 6, a), pageEntry(5, 5, 7, a), pageEntry(5, 6, 8, a), pageEntry(5, 7, 9, a)}, false},
		{"one that is missing", []string{pageEntry(5, 0, 2, a), blank(256), lastEntry(5, 2, 2)}, false},
		{"a last one that misses it", []string{pageEntry(5, 0, 2, a), blank(256), lastEntry(5, 1, 1)}, false},
		{"one of another kind", []string{pageEntry(5, 0, 2, a), home(3, b), lastEntry(5, 2, 2)}, false},
		{"a shape", []string{shapeSector(16, 8), pageEntry(5, 1, 2, a), lastEntry(5, 2, 2)}, false},
	}
	for _, c := range cases {
		d := with16(t, c.journal...)
		for no := range 16 {
			d.Sure[9+no] = home(no, page("old"))
		}
		pages := pagesOf(d.Sure[1:9], 16)
		if (len(pages) > 0) != c.whole {
			t.Fatalf("%s: the test itself tells %d pages", c.what, len(pages))
		}
		openedIs(t, c.what, d)
		v := opened(t, d)
		want := map[int]string{}
		for _, p := range pages {
			want[p.No] = p.Data
		}
		for no := range 16 {
			if s, is := want[no]; is {
				readIs(t, v, no, s)
			} else {
				readIs(t, v, no, "old")
			}
		}
	}
}

// P12.1: any byte of the journal's sectors turned: the transaction isn't whole any more, and its place isn't written.
func TestSpoiltJournal(t *testing.T) {
	journal := []string{pageEntry(5, 0, 2, page("new")), lastEntry(5, 1, 1)}
	for at := range 2 {
		for i := range 256 {
			for _, with := range []byte{1, 0x10, 0xff} {
				d := with16(t, journal...)
				d.Sure[9+2] = home(2, page("old"))
				b := []byte(journal[at])
				b[i] ^= with
				d.Sure[1+at] = string(b)
				v := opened(t, d)
				readIs(t, v, 2, "old")
				if v.Seq != 6 || !sameDisk(v.Disk, d) {
					t.Fatalf("sector %d, byte %d: Seq %d", at, i, v.Seq)
				}
			}
		}
	}
}

// P12.1: a journal of the greatest shape, whole up to its last sector.
func TestGreatestJournal(t *testing.T) {
	v := formatted(t, 512, 256)
	d := laid(v.Disk, nil)
	for i := range 255 {
		d.Sure[1+i] = pageEntry(7, i, 511-2*i, page(fmt.Sprint(i)))
	}
	d.Sure[256] = lastEntry(7, 255, 255)
	u := opened(t, d)
	if u.Seq != 8 {
		t.Errorf("Seq %d", u.Seq)
	}
	for no, s := range bytes(t, u) {
		want := ""
		if i := (511 - no) / 2; no%2 == 1 && i < 255 {
			want = fmt.Sprint(i)
		}
		if s != page(want) {
			t.Errorf("page %d: %q", no, strings.TrimRight(s, "\x00"))
		}
	}
	d.Sure[256] = pageEntry(7, 255, 0, page("none is the last one"))
	if u = opened(t, d); u.Seq != 8 || !sameDisk(u.Disk, d) {
		t.Errorf("without a last one: Seq %d, or another disk", u.Seq)
	}
}

// P12.3: whatever stands on a disk's sectors, it comes up, as the chapter says, or is refused.
func TestWhateverStandsThere(t *testing.T) {
	random := rand.New(rand.NewSource(5))
	sector := func() string {
		data := mixed(208, random.Int63n(5))
		seq := 1 + random.Intn(3)
		switch random.Intn(12) {
		case 0:
			return blank(256)
		case 1:
			return mixed(random.Intn(300), random.Int63())
		case 2:
			return home(random.Intn(17), data)
		case 3:
			return pageEntry(random.Intn(2)*(1<<31-2-random.Intn(2))+1, random.Intn(9), random.Intn(18), data)
		case 4, 5, 6:
			return lastEntry(seq, random.Intn(4), random.Intn(4))
		default:
			return pageEntry(seq, random.Intn(4), random.Intn(16), data)
		}
	}
	whole := 0
	for range 1500 {
		d := with16(t)
		// Most of them are as they would be in a transaction, so that many of them are whole, or nearly.
		n := random.Intn(8)
		for i := range 8 {
			switch k := random.Intn(10); {
			case k == 0:
				d.Sure[1+i] = sector()
			case i == n:
				d.Sure[1+i] = lastEntry(2, n, n)
			default:
				d.Sure[1+i] = pageEntry(2, i, random.Intn(16), mixed(208, random.Int63n(5)))
			}
		}
		for no := range 16 {
			if random.Intn(3) == 0 {
				d.Sure[9+no] = sector()
			}
		}
		if len(pagesOf(d.Sure[1:9], 16)) > 0 {
			whole++
		}
		openedIs(t, "any sectors", d)
	}
	if whole < 250 {
		t.Errorf("the test itself made %d whole ones alone", whole)
	}
}

// P12.3: any disk at all, any of its fields: each call ends, and answers a vault, ErrCorrupt or ErrDown.
func TestRawDisks(t *testing.T) {
	random := rand.New(rand.NewSource(6))
	good := committed(t, written(t, formatted(t, 16, 8), 3, "ab")).Disk
	for range 3000 {
		d := laid(good, nil)
		d.Left = []int{math.MinInt, -2, -1, 0, 1, 2, 9, math.MaxInt}[random.Intn(8)]
		d.Dead = random.Intn(8) == 0
		for range random.Intn(4) {
			d.Wet = append(d.Wet, api.Wet{At: random.Intn(30) - 3, Data: mixed(random.Intn(300), random.Int63())})
		}
		for range random.Intn(4) {
			d.Sure[random.Intn(25)] = mixed(random.Intn(300), random.Int63())
		}
		if random.Intn(4) == 0 {
			d.Sure = d.Sure[:random.Intn(26)]
		}
		v, then, err := Open(d)
		switch err {
		case api.OK:
			if !sameDisk(v.Disk, then) || v.Seq < 1 || len(v.Dirty) != 0 || d.Dead {
				t.Fatalf("opened: Seq %d, %d pages Dirty, or another disk", v.Seq, len(v.Dirty))
			}
			for no := range 16 {
				if s, err := Read(v, no); err != api.ErrForm && (err != api.OK || len(s) != 208) {
					t.Fatalf("Read(%d): %d bytes, %d", no, len(s), err)
				}
			}
		case api.ErrCorrupt, api.ErrDown:
			if !same(v, api.Vault{}) || err == api.ErrCorrupt && !sameDisk(then, d) || err == api.ErrDown && !then.Dead {
				t.Fatalf("refused by %d: a vault, or another disk", err)
			}
		default:
			t.Fatalf("Open: %d", err)
		}
	}
}

// P12.1: what isn't sure yet on a disk that has power is read as it is to be.
func TestOpenOfWetDisk(t *testing.T) {
	d := with16(t)
	d.Sure[0] = blank(256)
	for _, w := range []api.Wet{{At: 0, Data: shapeSector(16, 8)}, {At: 1, Data: pageEntry(5, 0, 2, page("new"))}, {At: 2, Data: lastEntry(5, 1, 1)}} {
		d, _ = disk.Write(d, w.At, w.Data)
	}
	v := opened(t, d)
	readIs(t, v, 2, "new")
	if v.Seq != 6 || len(v.Disk.Wet) != 0 {
		t.Errorf("Seq %d, %d sectors aren't sure", v.Seq, len(v.Disk.Wet))
	}
	readIs(t, opened(t, v.Disk), 2, "new")
}
