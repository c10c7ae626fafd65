package anchor

import (
	"encoding/binary"
	"hash/crc32"
	"math"
	"math/big"
	"math/rand"
	"strings"
	"sync"
	"testing"

	"archivist/api"
	"archivist/entry"
)

// ends are numbers of all kinds, the ends of their type too.
var ends = []int{math.MinInt, math.MinInt + 1, math.MinInt + 9, -1 << 32, -1<<32 + 16, -1 << 31, -65536, -65520, -65535, -512, -256, -17, -16, -15, -9, -8, -7, -2, -1, 0, 1, 2, 7, 8, 9, 15, 16, 17, 255, 256, 257, 511, 512, 513, 65535, 65536, 65544, 65552, 1<<31 - 1, 1 << 31, 1<<32 - 1, 1 << 32, 1<<32 + 16, math.MaxInt - 16, math.MaxInt - 9, math.MaxInt - 1, math.MaxInt}

// blank is that many noughts.
func blank(n int) string {
	return string(make([]byte, n))
}

// mixed is that many bytes of any kind, the same ones each time.
func mixed(n int, seed int64) string {
	b := make([]byte, n)
	rand.New(rand.NewSource(seed)).Read(b)
	return string(b)
}

// sealed is s, and the library's sum of it.
func sealed(s string) string {
	sum := crc32.Checksum([]byte(s), crc32.MakeTable(crc32.Castagnoli))
	return s + string(binary.LittleEndian.AppendUint32(nil, sum))
}

// ahead is all that stands ahead of the sum in a sector that begins so, by P11.1's words.
func ahead(kind string, pages, journal uint16) string {
	b := []byte(kind)
	b = binary.BigEndian.AppendUint16(b, pages)
	b = binary.BigEndian.AppendUint16(b, journal)
	return string(b) + blank(252-len(b))
}

// of is all that stands ahead of the sum in x's sector.
func of(x api.Shape) string {
	return ahead("ARCHIVE1", uint16(x.Pages), uint16(x.Journal))
}

// cut is the sum of the numbers, reckoned whole and then cut to an int's bits.
func cut(numbers ...int) int {
	sum := new(big.Int)
	for _, n := range numbers {
		sum.Add(sum, big.NewInt(int64(n)))
	}
	low := new(big.Int).And(sum, new(big.Int).SetUint64(math.MaxUint64))
	return int(low.Uint64())
}

// few are some shapes that may be, those at their edges too.
func few() []api.Shape {
	return []api.Shape{
		{Pages: 16, Journal: 8}, {Pages: 512, Journal: 256}, {Pages: 16, Journal: 256}, {Pages: 512, Journal: 8},
		{Pages: 17, Journal: 9}, {Pages: 511, Journal: 255}, {Pages: 256, Journal: 16}, {Pages: 300, Journal: 77},
	}
}

// every hands out each shape that may be.
func every(told func(x api.Shape)) {
	for pages := 16; pages <= 512; pages++ {
		for journal := 8; journal <= 256; journal++ {
			told(api.Shape{Pages: pages, Journal: journal})
		}
	}
}

// noShape checks that s is no shape's sector.
func noShape(t *testing.T, what, s string) {
	t.Helper()
	if x, is := Parse(s); is || x != (api.Shape{}) {
		t.Errorf("%s: Parse(%q): %+v, %v", what, s, x, is)
	}
}

// P11.1: the chapter's example.
func TestExample(t *testing.T) {
	x := api.Shape{Pages: 16, Journal: 8}
	if got := Size(x); got != 25 {
		t.Errorf("Size: %d", got)
	}
	for _, c := range []struct {
		what      string
		got, want int
	}{
		{"the journal's first", Log(0), 1}, {"its second", Log(1), 2}, {"its last", Log(7), 8},
		{"page 0's", Place(x, 0), 9}, {"page 1's", Place(x, 1), 10}, {"page 15's", Place(x, 15), 24},
	} {
		if c.got != c.want {
			t.Errorf("%s sector: %d, want %d", c.what, c.got, c.want)
		}
	}
}

// P11.1: each shape about those that may be.
func TestRight(t *testing.T) {
	for pages := -2; pages <= 530; pages++ {
		for journal := -2; journal <= 270; journal++ {
			want := pages > 15 && pages < 513 && journal > 7 && journal < 257
			if got := Right(api.Shape{Pages: pages, Journal: journal}); got != want {
				t.Errorf("%d pages, %d sectors: %v", pages, journal, got)
			}
		}
	}
	if Right(api.Shape{}) {
		t.Error("a shape of nothing may be")
	}
}

// P11.1: numbers of all kinds.
func TestRightNumbers(t *testing.T) {
	for _, pages := range ends {
		for _, journal := range ends {
			want := pages > 15 && pages < 513 && journal > 7 && journal < 257
			if got := Right(api.Shape{Pages: pages, Journal: journal}); got != want {
				t.Errorf("%d pages, %d sectors: %v", pages, journal, got)
			}
		}
	}
}

// P11.1: sums of numbers of all kinds, cut to an int's bits.
func TestSums(t *testing.T) {
	for _, a := range ends {
		if got, want := Log(a), cut(1, a); got != want {
			t.Errorf("Log(%d): %d, want %d", a, got, want)
		}
		for _, b := range ends {
			x := api.Shape{Pages: a, Journal: b}
			if got, want := Size(x), cut(1, a, b); got != want {
				t.Errorf("Size(%+v): %d, want %d", x, got, want)
			}
			for _, no := range ends {
				if got, want := Place(x, no), cut(1, b, no); got != want {
					t.Errorf("Place(%+v, %d): %d, want %d", x, no, got, want)
				}
			}
		}
	}
}

// P11.2: the shape's sector, the journal's and the pages' are all those of the disk, each of them one thing's.
func TestApart(t *testing.T) {
	every(func(x api.Shape) {
		whose := make([]int, Size(x))
		whose[0]++
		for i := range x.Journal {
			whose[Log(i)]++
		}
		for no := range x.Pages {
			whose[Place(x, no)]++
		}
		if len(whose) != 1+x.Journal+x.Pages {
			t.Fatalf("%+v: %d sectors", x, len(whose))
		}
		for at, n := range whose {
			if n != 1 {
				t.Fatalf("%+v: sector %d is had by %d", x, at, n)
			}
		}
	})
}

// P11.2: the journal begins behind the shape's sector, page 0's stands behind the journal's last, the last page's is the disk's last.
func TestEdges(t *testing.T) {
	every(func(x api.Shape) {
		if Log(0) != 1 || Log(x.Journal-1)+1 != Place(x, 0) || Place(x, x.Pages-1)+1 != Size(x) {
			t.Fatalf("%+v: the journal from %d to %d, pages from %d to %d of %d", x, Log(0), Log(x.Journal-1), Place(x, 0), Place(x, x.Pages-1), Size(x))
		}
	})
}

// P11.1: sectors, written out.
func TestPrintKnown(t *testing.T) {
	for _, c := range []struct {
		what string
		x    api.Shape
		want string
	}{
		{"the least", api.Shape{Pages: 16, Journal: 8}, "ARCHIVE1\x00\x10\x00\x08" + blank(240)},
		{"the greatest", api.Shape{Pages: 512, Journal: 256}, "ARCHIVE1\x02\x00\x01\x00" + blank(240)},
		{"numbers that differ", api.Shape{Pages: 0x1c3, Journal: 0xa5}, "ARCHIVE1\x01\xc3\x00\xa5" + blank(240)},
	} {
		if len(c.want) != 252 {
			t.Fatalf("%s: the test has %d bytes", c.what, len(c.want))
		}
		if got := Print(c.x); got != sealed(c.want) {
			t.Errorf("%s: %q, want %q", c.what, got, sealed(c.want))
		}
	}
}

// P11.1: what may not be has a sector by the same words, numbers cut as layer 3 cuts them; and it is no shape's, but for one that may be and has the same bytes.
func TestPrintRaw(t *testing.T) {
	for _, pages := range ends {
		for _, journal := range ends {
			x := api.Shape{Pages: pages, Journal: journal}
			s := Print(x)
			if want := sealed(of(x)); s != want || len(s) != 256 {
				t.Errorf("%+v: %q, want %q", x, s, want)
			}
			low := api.Shape{Pages: int(uint16(pages)), Journal: int(uint16(journal))}
			if !Right(low) {
				noShape(t, "one that may not be", s)
			} else if got, is := Parse(s); !is || got != low {
				t.Errorf("%+v: %+v, %v", x, got, is)
			}
		}
	}
}

// P11.1, P11.2: each shape there and back, and no two have one sector.
func TestThereAndBack(t *testing.T) {
	seen := map[string]api.Shape{}
	every(func(x api.Shape) {
		s := Print(x)
		if want := sealed(of(x)); s != want || len(s) != 256 {
			t.Errorf("%+v: %q, want %q", x, s, want)
		}
		if got, is := Parse(s); !is || got != x {
			t.Errorf("%+v: %+v, %v", x, got, is)
		}
		if other, is := seen[s]; is {
			t.Errorf("%+v has the sector of %+v", x, other)
		}
		seen[s] = x
	})
}

// P11.1: each number that two bytes can tell, with a sum that is right.
func TestParseNumbers(t *testing.T) {
	for _, x := range few() {
		check := func(pages, journal int, may bool) {
			t.Helper()
			got, is := Parse(sealed(ahead("ARCHIVE1", uint16(pages), uint16(journal))))
			want := api.Shape{}
			if may {
				want = api.Shape{Pages: pages, Journal: journal}
			}
			if is != may || got != want {
				t.Errorf("%d pages, %d sectors: %+v, %v", pages, journal, got, is)
			}
		}
		for n := range 65536 {
			check(n, x.Journal, n > 15 && n < 513)
			check(x.Pages, n, n > 7 && n < 257)
		}
	}
}

// P11.1: other beginnings, each with a sum that is right.
func TestParseKinds(t *testing.T) {
	for _, kind := range []string{"", "A", "ARCHIVE", "ARCHIVE2", "ARCHIVE0", "ARCHIV11", "archive1", "ARCHIVe1", "aRCHIVE1", "1EVIHCRA", "ARCHIVE1\x00", "ARCHIVE1\x00\x00", " ARCHIVE1", "AARCHIVE1", "JPAG", "JEND", "LEAF", "OBJ1", "OBJ2", blank(8), strings.Repeat("\xff", 8)} {
		for _, x := range few() {
			s := ahead(kind, uint16(x.Pages), uint16(x.Journal))
			noShape(t, "kind "+kind, sealed(s))
		}
	}
}

// P11.1: noughts that aren't noughts, with a sum that is right.
func TestNoughts(t *testing.T) {
	for _, x := range few() {
		for at := 12; at < 252; at++ {
			for _, bit := range []byte{1, 0x80, 0xff} {
				b := []byte(of(x))
				b[at] = bit
				noShape(t, "a nought that isn't one", sealed(string(b)))
			}
		}
	}
}

// P11.1: too few bytes and too many, as they are and sealed anew.
func TestLengths(t *testing.T) {
	noShape(t, "no bytes", "")
	noShape(t, "no bytes, sealed", sealed(""))
	for _, x := range few() {
		s, front := Print(x), of(x)
		for n := range 256 {
			noShape(t, "cut off", s[:n])
			noShape(t, "cut off ahead", s[n+1:])
			noShape(t, "one byte less", s[:n]+s[n+1:])
		}
		for n := range 252 {
			noShape(t, "cut off, and sealed", sealed(front[:n]))
			noShape(t, "cut off ahead, and sealed", sealed(front[n+1:]))
		}
		for _, more := range []string{"\x00", "\x01", "x", blank(4), blank(256), s, front} {
			noShape(t, "more behind", s+more)
			noShape(t, "more ahead", more+s)
			noShape(t, "more behind, and sealed", sealed(front+more))
			noShape(t, "more ahead, and sealed", sealed(more+front))
			noShape(t, "more behind, and sealed twice", sealed(s+more))
		}
		noShape(t, "sealed twice", sealed(s))
	}
	for n := range 600 {
		noShape(t, "noughts", blank(n))
		noShape(t, "noughts, sealed", sealed(blank(n)))
		noShape(t, "bytes", mixed(n, int64(n)))
		noShape(t, "bytes, sealed", sealed(mixed(n, int64(n))))
		noShape(t, "bytes behind the kind, sealed", sealed("ARCHIVE1"+mixed(n, int64(n))))
	}
}

// P11.1, P11.2: sectors of the journal and of pages are no shape's, even where pages hold a shape's bytes, and a shape's is none of these.
func TestOtherSectors(t *testing.T) {
	for _, data := range []string{blank(208), strings.Repeat("\xff", 208), mixed(208, 1), Print(api.Shape{Pages: 16, Journal: 8})[:208]} {
		for _, no := range []int{0, 1, 16, 511} {
			noShape(t, "a page", entry.Leaf(api.Leaf{No: no, Data: data}))
			noShape(t, "a page's entry", entry.Print(api.Entry{Seq: 1, Index: 8, No: no, Data: data}))
			noShape(t, "a last entry", entry.Print(api.Entry{Seq: 1, Index: 8, Last: true, No: no}))
		}
	}
	every(func(x api.Shape) {
		s := Print(x)
		if _, is := entry.Parse(s); is {
			t.Fatalf("%+v: its sector is an entry's", x)
		}
		if _, is := entry.Home(s, x.Pages); is {
			t.Fatalf("%+v: its sector is a page's", x)
		}
	})
}

// spoilt is s with what of with isn't nought laid over it, from at on, by exclusive or.
func spoilt(s string, at int, with []byte) string {
	b := []byte(s)
	for i, x := range with {
		b[at+i] ^= x
	}
	return string(b)
}

// P11.1: other bytes anywhere in a sector, each one each way, and two to four side by side.
func TestBursts(t *testing.T) {
	for i, x := range few() {
		s := Print(x)
		random := rand.New(rand.NewSource(int64(i)))
		for at := range len(s) {
			for with := 1; with < 256; with++ {
				noShape(t, "one byte", spoilt(s, at, []byte{byte(with)}))
			}
			for size := 2; size <= 4 && at+size <= len(s); size++ {
				for range 30 {
					with := make([]byte, size)
					for i := range with {
						with[i] = byte(1 + random.Intn(255))
					}
					noShape(t, "bytes side by side", spoilt(s, at, with))
				}
			}
		}
	}
}

// P11.1: a number or a sum taken from another shape's sector.
func TestOtherSums(t *testing.T) {
	for _, x := range few() {
		for _, y := range few() {
			if x == y {
				continue
			}
			a, b := Print(x), Print(y)
			noShape(t, "another's sum", a[:252]+b[252:])
			if x.Pages != y.Pages {
				noShape(t, "another's Pages", a[:8]+b[8:10]+a[10:])
			}
			if x.Journal != y.Journal {
				noShape(t, "another's Journal", a[:10]+b[10:12]+a[12:])
			}
		}
		s := Print(x)
		noShape(t, "a sum of noughts", s[:252]+blank(4))
		noShape(t, "a sum, its highest byte first", s[:252]+string([]byte{s[255], s[254], s[253], s[252]}))
	}
}

// The same arguments, the same answers, and what is handed in stays as it was.
func TestAgain(t *testing.T) {
	for _, x := range few() {
		kept, s := x, Print(x)
		bytes := strings.Clone(s)
		first, _ := Parse(s)
		second, _ := Parse(s)
		if Print(x) != s || first != second || !Right(x) || Size(x) != Size(kept) || Place(x, 3) != Place(kept, 3) || x != kept || s != bytes {
			t.Errorf("%+v: other answers, or another shape", kept)
		}
	}
}

// Any number of goroutines may call at once.
func TestAtOnce(t *testing.T) {
	var all sync.WaitGroup
	for side := range 8 {
		all.Go(func() {
			for range 50 {
				for _, x := range few() {
					if got, is := Parse(Print(x)); !Right(x) || got != x || !is || Size(x) != 1+x.Journal+x.Pages {
						t.Errorf("side %d: %+v went wrong", side, x)
					}
				}
			}
		})
	}
	all.Wait()
}
