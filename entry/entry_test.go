package entry

import (
	"encoding/binary"
	"hash/crc32"
	"math"
	"math/rand"
	"strings"
	"sync"
	"testing"

	"archivist/api"
)

// ends are numbers of all kinds, the ends of their type too.
var ends = []int{math.MinInt, math.MinInt + 1, math.MinInt + 5, -1 << 32, -1<<32 + 1, -1 << 31, -65536, -65535, -512, -511, -256, -255, -2, -1, 0, 1, 2, 5, 6, 254, 255, 256, 257, 510, 511, 512, 513, 65535, 65536, 65537, 1<<31 - 2, 1<<31 - 1, 1 << 31, 1<<31 + 1, 1<<32 - 1, 1 << 32, 1<<32 + 1, math.MaxInt - 1, math.MaxInt}

// sizes are how many bytes of Data there may be that are none, too few, a page's, too many, or more than a sector has room for.
var sizes = []int{0, 1, 207, 208, 209, 239, 240, 241, 246, 247, 252, 256, 257, 300}

// blank is that many noughts.
func blank(n int) string {
	return string(make([]byte, n))
}

// mixed is that many bytes of any kind, the same ones each time.
func mixed(n int, seed int64) string {
	b := make([]byte, n)
	rand.New(rand.NewSource(seed)).Read(b)
	return string(b)
}

// pages are bytes of pages, of noughts too.
func pages() []string {
	return []string{
		blank(208), strings.Repeat("\xff", 208), mixed(208, 10), mixed(208, 11),
		"ab" + blank(206), blank(207) + "\x01", "\x01" + blank(207), strings.Repeat("JEND", 52), strings.Repeat("LEAF", 52),
	}
}

// sealed is s, and the library's sum of it.
func sealed(s string) string {
	sum := crc32.Checksum([]byte(s), crc32.MakeTable(crc32.Castagnoli))
	return s + string(binary.LittleEndian.AppendUint32(nil, sum))
}

// filled is s, and noughts behind it as long as it is shorter than 252 bytes.
func filled(s string) string {
	if len(s) >= 252 {
		return s
	}
	return s + blank(252-len(s))
}

// raw is what stands in an entry's sector, each number as it is written.
type raw struct {
	kind      string
	seq       uint32
	index, no uint16
	data      string
}

// ahead is all that stands ahead of the sum, by P10.1's words.
func (w raw) ahead() string {
	b := []byte(w.kind)
	b = binary.BigEndian.AppendUint32(b, w.seq)
	b = binary.BigEndian.AppendUint16(b, w.index)
	b = binary.BigEndian.AppendUint16(b, w.no)
	return filled(string(b) + w.data)
}

// of is what x's sector is to be.
func of(x api.Entry) raw {
	w := raw{kind: "JPAG", seq: uint32(x.Seq), index: uint16(x.Index), no: uint16(x.No), data: x.Data}
	if x.Last {
		w.kind = "JEND"
	}
	return w
}

// leafAhead is all that stands ahead of the sum in a page's sector.
func leafAhead(kind string, no uint16, data string) string {
	return filled(kind + string(binary.BigEndian.AppendUint16(nil, no)) + data)
}

// ofPage is a page's entry.
func ofPage(seq, index, no int, data string) api.Entry {
	return api.Entry{Seq: seq, Index: index, No: no, Data: data}
}

// ofLast is a last one.
func ofLast(seq, index, no int) api.Entry {
	return api.Entry{Seq: seq, Index: index, Last: true, No: no}
}

// samples are entries that may be written: each field at its edges, with the others as they mostly are, and all of them at their edges.
func samples() []api.Entry {
	var all []api.Entry
	add := func(seq, index, no int, data string) {
		all = append(all, ofPage(seq, index, no, data), ofLast(seq, index, no))
	}
	for _, seq := range []int{1, 2, 3, 255, 256, 65535, 65536, 1 << 24, 1<<31 - 2, 1<<31 - 1} {
		add(seq, 1, 7, mixed(208, 1))
	}
	for index := range 256 {
		add(3, index, 7, mixed(208, int64(index)))
	}
	for no := range 512 {
		add(3, 1, no, mixed(208, int64(no)))
	}
	for _, data := range pages() {
		for _, seq := range []int{1, 1<<31 - 1} {
			for _, index := range []int{0, 255} {
				for _, no := range []int{0, 511} {
					add(seq, index, no, data)
				}
			}
		}
	}
	return all
}

// few are some of them, of each kind.
func few() []api.Entry {
	return []api.Entry{
		ofPage(3, 1, 7, "ab"+blank(206)), ofPage(1, 0, 0, blank(208)), ofPage(1<<31-1, 255, 511, strings.Repeat("\xff", 208)), ofPage(77, 20, 300, mixed(208, 3)),
		ofLast(3, 2, 1), ofLast(1, 0, 0), ofLast(1<<31-1, 255, 511),
	}
}

// fewLeaves are some pages.
func fewLeaves() []api.Leaf {
	return []api.Leaf{
		{No: 5, Data: "ab" + blank(206)}, {No: 0, Data: blank(208)}, {No: 511, Data: strings.Repeat("\xff", 208)}, {No: 300, Data: mixed(208, 4)},
	}
}

// noEntry checks that s is no entry's sector.
func noEntry(t *testing.T, what, s string) {
	t.Helper()
	if x, is := Parse(s); is || x != (api.Entry{}) {
		t.Errorf("%s: Parse(%q): %+v, %v", what, s, x, is)
	}
}

// noHome checks that s isn't the sector of the page of that number.
func noHome(t *testing.T, what, s string, no int) {
	t.Helper()
	if data, is := Home(s, no); is || data != "" {
		t.Errorf("%s: Home(%q, %d): %q, %v", what, s, no, data, is)
	}
}

// isHome checks that s is the sector of the page of that number, with those bytes.
func isHome(t *testing.T, what, s string, no int, want string) {
	t.Helper()
	if data, is := Home(s, no); !is || data != want {
		t.Errorf("%s: Home(%q, %d): %q, %v", what, s, no, data, is)
	}
}

// P10.1: the chapter's example.
func TestExample(t *testing.T) {
	for _, data := range pages() {
		five, six := Leaf(api.Leaf{No: 5, Data: data}), Leaf(api.Leaf{No: 6, Data: data})
		if five == six {
			t.Error("page 5's sector is page 6's")
		}
		isHome(t, "page 5", five, 5, data)
		noHome(t, "page 5 as page 6", five, 6)
		isHome(t, "page 6", six, 6, data)
		noHome(t, "page 6 as page 5", six, 5)
	}
}

// P10.1: entries at their edges may be written.
func TestRight(t *testing.T) {
	for _, x := range samples() {
		if !Right(x) {
			t.Errorf("%+v may not be written", x)
		}
	}
}

// P10.1: numbers of all kinds, each of them and all together.
func TestRightNumbers(t *testing.T) {
	for _, last := range []bool{false, true} {
		data := mixed(208, 5)
		if last {
			data = ""
		}
		for _, seq := range ends {
			for _, index := range ends {
				for _, no := range ends {
					want := seq > 0 && seq < 1<<31 && index >= 0 && index < 256 && no >= 0 && no < 512
					x := api.Entry{Seq: seq, Index: index, Last: last, No: no, Data: data}
					if got := Right(x); got != want {
						t.Errorf("Seq %d, Index %d, No %d, Last %v: %v", seq, index, no, last, got)
					}
				}
			}
		}
	}
}

// P10.1: a page's entry has 208 bytes, the last one's none.
func TestRightData(t *testing.T) {
	for n := range 600 {
		for _, data := range []string{blank(n), mixed(n, 6)} {
			if got, want := Right(ofPage(3, 1, 7, data)), n == 208; got != want {
				t.Errorf("a page's of %d bytes: %v", n, got)
			}
			x := ofLast(3, 1, 7)
			x.Data = data
			if got, want := Right(x), n == 0; got != want {
				t.Errorf("a last one of %d bytes: %v", n, got)
			}
		}
	}
	if Right(api.Entry{}) || Right(api.Entry{Last: true}) || Right(api.Entry{Seq: 1}) {
		t.Error("an entry of nothing may be written")
	}
}

// P10.1: sectors, written out.
func TestPrintKnown(t *testing.T) {
	for _, c := range []struct {
		what string
		x    api.Entry
		want string
	}{
		{"a page's", ofPage(3, 1, 7, "ab"+blank(206)), "JPAG\x00\x00\x00\x03\x00\x01\x00\x07ab" + blank(238)},
		{"the last one's", ofLast(3, 2, 1), "JEND\x00\x00\x00\x03\x00\x02\x00\x01" + blank(240)},
		{"the least page's", ofPage(1, 0, 0, blank(208)), "JPAG\x00\x00\x00\x01" + blank(244)},
		{"the greatest page's", ofPage(1<<31-1, 255, 511, strings.Repeat("\xff", 208)), "JPAG\x7f\xff\xff\xff\x00\xff\x01\xff" + strings.Repeat("\xff", 208) + blank(32)},
		{"the least last one", ofLast(1, 0, 0), "JEND\x00\x00\x00\x01" + blank(244)},
		{"the greatest last one", ofLast(1<<31-1, 255, 511), "JEND\x7f\xff\xff\xff\x00\xff\x01\xff" + blank(240)},
		{"bytes that differ", ofPage(0x01020304, 0xa5, 0x1c3, mixed(208, 7)), "JPAG\x01\x02\x03\x04\x00\xa5\x01\xc3" + mixed(208, 7) + blank(32)},
	} {
		if len(c.want) != 252 {
			t.Fatalf("%s: the test has %d bytes", c.what, len(c.want))
		}
		if got := Print(c.x); got != sealed(c.want) {
			t.Errorf("%s: %q, want %q", c.what, got, sealed(c.want))
		}
	}
}

// P10.1: each field has its own place, and a sector is 256 bytes.
func TestPrint(t *testing.T) {
	for _, x := range samples() {
		got := Print(x)
		if want := sealed(of(x).ahead()); got != want || len(got) != 256 {
			t.Errorf("%+v: %q, want %q", x, got, want)
		}
	}
}

// P10.1: what may not be written has bytes by the same words, numbers cut as layer 3 cuts them, and Data whole.
func TestPrintRaw(t *testing.T) {
	for _, last := range []bool{false, true} {
		for _, n := range ends {
			for _, size := range sizes {
				x := api.Entry{Seq: n, Index: -n, Last: last, No: n / 2, Data: mixed(size, 8)}
				if got, want := Print(x), sealed(of(x).ahead()); got != want {
					t.Errorf("%+v: %q, want %q", x, got, want)
				}
			}
		}
	}
}

// P10.1, P10.2: an entry there and back.
func TestThereAndBack(t *testing.T) {
	for _, x := range samples() {
		if got, is := Parse(Print(x)); !is || got != x {
			t.Errorf("%+v: %+v, %v", x, got, is)
		}
	}
}

// P10.2: there and back, with all fields at once as they come; no two entries have one sector.
func TestThereAndBackRandom(t *testing.T) {
	random := rand.New(rand.NewSource(9))
	seen := map[string]api.Entry{}
	for range 20000 {
		x := ofLast(1+random.Intn(math.MaxInt32), random.Intn(256), random.Intn(512))
		if random.Intn(4) > 0 {
			x.Last, x.Data = false, mixed(208, random.Int63n(50))
		}
		s := Print(x)
		if got, is := Parse(s); !is || got != x {
			t.Fatalf("%+v: %+v, %v", x, got, is)
		}
		if other, is := seen[s]; is && other != x {
			t.Fatalf("%+v has the sector of %+v", x, other)
		}
		seen[s] = x
	}
}

// P10.1: of entries that may not be written Parse answers nothing, or one that may be and has the same sector.
func TestParsePrintRaw(t *testing.T) {
	check := func(x api.Entry) {
		t.Helper()
		s := Print(x)
		got, is := Parse(s)
		if !is && got == (api.Entry{}) || is && Right(got) && Print(got) == s {
			return
		}
		t.Errorf("%+v: %+v, %v", x, got, is)
	}
	for _, n := range ends {
		for _, size := range sizes {
			for _, data := range []string{blank(size), mixed(size, 8)} {
				for _, last := range []bool{false, true} {
					check(api.Entry{Seq: n, Last: last, Data: data})
					check(api.Entry{Seq: 3, Index: n, Last: last, Data: data})
					check(api.Entry{Seq: 3, No: n, Last: last, Data: data})
				}
			}
		}
	}
	noEntry(t, "209 bytes", Print(ofPage(3, 1, 7, mixed(209, 8))))
	noEntry(t, "241 bytes", Print(ofPage(3, 1, 7, mixed(208, 8)+blank(33))))
	x := ofLast(3, 1, 7)
	x.Data = blank(207) + "\x01"
	noEntry(t, "a last one with Data", Print(x))
}

// P10.1: each number that the bytes can tell of Index and of No, and many of Seq, with a sum that is right.
func TestParseNumbers(t *testing.T) {
	for _, x := range []api.Entry{ofPage(3, 1, 7, mixed(208, 8)), ofLast(3, 1, 7)} {
		check := func(what string, w raw, want api.Entry, may bool) {
			t.Helper()
			got, is := Parse(sealed(w.ahead()))
			if !may {
				want = api.Entry{}
			}
			if is != may || got != want {
				t.Errorf("%s: %+v, %v", what, got, is)
			}
		}
		for n := range 65536 {
			w, want := of(x), x
			w.index, want.Index = uint16(n), n
			check("Index", w, want, n < 256)
			w, want = of(x), x
			w.no, want.No = uint16(n), n
			check("No", w, want, n < 512)
		}
		for bit := range 32 {
			for _, n := range []uint32{1 << bit, 1<<bit - 1, 1<<bit + 1, ^uint32(0) >> bit, ^uint32(0) << bit} {
				w, want := of(x), x
				w.seq, want.Seq = n, int(n)
				check("Seq", w, want, n > 0 && n < 1<<31)
			}
		}
	}
}

// P10.1: other kinds, each with a sum that is right; none of them is a page's sector either.
func TestParseKinds(t *testing.T) {
	kinds := []string{"", "J", "JPA", "JEN", "JPPAG", "JJEND", "LLEAF", "jpag", "jend", "JPAg", "JENd", "JPAH", "JENE", "JPND", "JEAG", "GAPJ", "DNEJ", "LEAF", "LEAD", "leaf", "OBJ1", "OBJ2", "ARCHIVE1", "\x00\x00\x00\x00", "\xff\xff\xff\xff", " JPAG", "\x00JEND"}
	for _, x := range few() {
		for _, kind := range kinds {
			w := of(x)
			w.kind = kind
			s := sealed(w.ahead())
			noEntry(t, "kind "+kind, s)
			if kind != "LEAF" {
				noHome(t, "kind "+kind, s, x.No)
			}
		}
	}
	for _, p := range fewLeaves() {
		for _, kind := range kinds {
			s := sealed(leafAhead(kind, uint16(p.No), p.Data))
			noEntry(t, "a page of kind "+kind, s)
			if kind != "LEAF" {
				noHome(t, "a page of kind "+kind, s, p.No)
			}
		}
	}
}

// P10.1: the kinds changed for each other: a page's bytes are not the last one's; where there are noughts alone, both are.
func TestParseOtherKind(t *testing.T) {
	w := of(ofPage(3, 1, 7, mixed(208, 8)))
	w.kind = "JEND"
	noEntry(t, "a last one with a page's bytes", sealed(w.ahead()))
	for at := range 208 {
		data := []byte(blank(208))
		data[at] = 1
		w.data = string(data)
		noEntry(t, "a last one with one byte of Data", sealed(w.ahead()))
	}
	w.data = blank(208)
	if x, is := Parse(sealed(w.ahead())); !is || x != ofLast(3, 1, 7) {
		t.Errorf("the last one: %+v, %v", x, is)
	}
	w = of(ofLast(3, 1, 7))
	w.kind = "JPAG"
	if x, is := Parse(sealed(w.ahead())); !is || x != ofPage(3, 1, 7, blank(208)) {
		t.Errorf("a page of noughts: %+v, %v", x, is)
	}
}

// P10.1: noughts that aren't noughts, with a sum that is right.
func TestNoughts(t *testing.T) {
	for _, bit := range []byte{1, 0x80, 0xff} {
		for _, x := range few() {
			for at := 12 + len(x.Data); at < 252; at++ {
				b := []byte(of(x).ahead())
				b[at] = bit
				noEntry(t, "a nought that isn't one", sealed(string(b)))
			}
		}
		for _, p := range fewLeaves() {
			for at := 6 + 208; at < 252; at++ {
				b := []byte(leafAhead("LEAF", uint16(p.No), p.Data))
				b[at] = bit
				noHome(t, "a nought that isn't one", sealed(string(b)), p.No)
			}
		}
	}
}

// P10.1: too few bytes and too many, as they are and sealed anew.
func TestLengths(t *testing.T) {
	sectors := []struct{ s, ahead string }{}
	for _, x := range few() {
		sectors = append(sectors, struct{ s, ahead string }{Print(x), of(x).ahead()})
	}
	for _, p := range fewLeaves() {
		sectors = append(sectors, struct{ s, ahead string }{Leaf(p), leafAhead("LEAF", uint16(p.No), p.Data)})
	}
	no := func(what, s string) {
		t.Helper()
		noEntry(t, what, s)
		for _, number := range []int{0, 5, 7, 300, 511} {
			noHome(t, what, s, number)
		}
	}
	no("no bytes", "")
	no("no bytes, sealed", sealed(""))
	for _, c := range sectors {
		for n := range 256 {
			no("cut off", c.s[:n])
			no("cut off ahead", c.s[n+1:])
			no("one byte less", c.s[:n]+c.s[n+1:])
		}
		for n := range 252 {
			no("cut off, and sealed", sealed(c.ahead[:n]))
			no("cut off ahead, and sealed", sealed(c.ahead[n+1:]))
		}
		for _, more := range []string{"\x00", "\x01", "x", "\x00\x00\x00\x00", blank(256), c.s, c.ahead} {
			no("more behind", c.s+more)
			no("more ahead", more+c.s)
			no("more behind, and sealed", sealed(c.ahead+more))
			no("more ahead, and sealed", sealed(more+c.ahead))
			no("more behind, and sealed twice", sealed(c.s+more))
		}
		no("sealed twice", sealed(c.s))
	}
	for n := range 600 {
		if n != 256 {
			no("noughts", blank(n))
		}
		no("bytes", mixed(n, int64(n)))
		no("bytes, sealed", sealed(mixed(n, int64(n))))
	}
	noEntry(t, "256 noughts", blank(256))
}

// P10.1: pages' sectors, written out.
func TestLeafKnown(t *testing.T) {
	for _, c := range []struct {
		what string
		p    api.Leaf
		want string
	}{
		{"page 5", api.Leaf{No: 5, Data: "ab" + blank(206)}, "LEAF\x00\x05ab" + blank(244)},
		{"page 0, of noughts", api.Leaf{No: 0, Data: blank(208)}, "LEAF" + blank(248)},
		{"the last page", api.Leaf{No: 511, Data: strings.Repeat("\xff", 208)}, "LEAF\x01\xff" + strings.Repeat("\xff", 208) + blank(38)},
		{"bytes that differ", api.Leaf{No: 0x1c3, Data: mixed(208, 7)}, "LEAF\x01\xc3" + mixed(208, 7) + blank(38)},
	} {
		if len(c.want) != 252 {
			t.Fatalf("%s: the test has %d bytes", c.what, len(c.want))
		}
		if got := Leaf(c.p); got != sealed(c.want) {
			t.Errorf("%s: %q, want %q", c.what, got, sealed(c.want))
		}
	}
}

// P10.1, P10.2: each page there and back, and it is no other page's.
func TestHome(t *testing.T) {
	for no := range 512 {
		data := mixed(208, int64(no))
		if no%3 == 0 {
			data = blank(208)
		}
		s := Leaf(api.Leaf{No: no, Data: data})
		if want := sealed(leafAhead("LEAF", uint16(no), data)); s != want || len(s) != 256 {
			t.Errorf("page %d: %q, want %q", no, s, want)
		}
		isHome(t, "a page", s, no, data)
		for other := range 512 {
			if other != no {
				noHome(t, "another page", s, other)
			}
		}
	}
	for _, data := range pages() {
		isHome(t, "a page", Leaf(api.Leaf{No: 9, Data: data}), 9, data)
	}
}

// P10.1: whatever number is asked for, a sector is only that page's whose number its bytes tell, not one's whose number is cut to the same bytes.
func TestHomeNumbers(t *testing.T) {
	for _, p := range fewLeaves() {
		s := Leaf(p)
		for _, no := range ends {
			if no != p.No {
				noHome(t, "another number", s, no)
			}
		}
		for _, far := range []int{1 << 16, 1 << 17, 1 << 31, 1 << 32, 1 << 48, math.MinInt} {
			noHome(t, "a number cut to this one", s, p.No+far)
			noHome(t, "a number cut to this one", s, p.No-far)
		}
	}
	for _, no := range ends {
		s := Leaf(api.Leaf{No: no, Data: mixed(208, 8)})
		if no < 0 || no > 65535 {
			noHome(t, "a number that two bytes can't tell", s, no)
		} else {
			isHome(t, "a number that two bytes can tell", s, no, mixed(208, 8))
		}
	}
}

// P10.1: 256 noughts are a page of noughts, whatever its number.
func TestHomeBlank(t *testing.T) {
	for no := range 512 {
		isHome(t, "256 noughts", blank(256), no, blank(208))
	}
	for _, no := range ends {
		isHome(t, "256 noughts", blank(256), no, blank(208))
		noHome(t, "no bytes", "", no)
		noHome(t, "255 noughts", blank(255), no)
		noHome(t, "257 noughts", blank(257), no)
		noHome(t, "208 noughts", blank(208), no)
		noHome(t, "252 noughts, sealed", sealed(blank(252)), no)
	}
}

// P10.1: Data that no page has: by the same words, and nobody panics.
func TestLeafRaw(t *testing.T) {
	for _, no := range ends {
		for _, size := range sizes {
			data := mixed(size, 8)
			s := Leaf(api.Leaf{No: no, Data: data})
			if want := sealed(leafAhead("LEAF", uint16(no), data)); s != want {
				t.Errorf("page %d of %d bytes: %q, want %q", no, size, s, want)
			}
			if size > 208 {
				noHome(t, "a page of too many bytes", s, no)
			}
		}
	}
}

// P10.1: an entry's sector is no page's, and a page's is no entry's.
func TestApart(t *testing.T) {
	for _, x := range samples() {
		s := Print(x)
		noHome(t, "an entry", s, x.No)
		noHome(t, "an entry", s, x.Index)
		noHome(t, "an entry", s, 0)
	}
	for no := range 512 {
		noEntry(t, "a page", Leaf(api.Leaf{No: no, Data: mixed(208, int64(no))}))
		noEntry(t, "a page of noughts", Leaf(api.Leaf{No: no, Data: blank(208)}))
	}
}

// spoilt is s with what of with isn't nought laid over it, from at on, by exclusive or.
func spoilt(s string, at int, with []byte) string {
	b := []byte(s)
	for i, x := range with {
		b[at+i] ^= x
	}
	return string(b)
}

// bursts hands out the sector s with other bytes: each one each way, and two to four side by side, anywhere.
func bursts(s string, seed int64, told func(what, other string)) {
	random := rand.New(rand.NewSource(seed))
	for at := range len(s) {
		for x := 1; x < 256; x++ {
			told("one byte", spoilt(s, at, []byte{byte(x)}))
		}
		for size := 2; size <= 4 && at+size <= len(s); size++ {
			told("bytes turned whole", spoilt(s, at, []byte("\xff\xff\xff\xff")[:size]))
			for range 30 {
				with := make([]byte, size)
				for i := range with {
					with[i] = byte(1 + random.Intn(255))
				}
				told("bytes side by side", spoilt(s, at, with))
			}
		}
	}
}

// P10.2: up to four other bytes side by side in an entry's sector are told.
func TestBurstsEntry(t *testing.T) {
	for i, x := range few() {
		bursts(Print(x), int64(i), func(what, other string) {
			noEntry(t, what, other)
			noHome(t, what, other, x.No)
		})
	}
}

// P10.2: and in a page's sector; in one that was never written, too.
func TestBurstsLeaf(t *testing.T) {
	for i, p := range fewLeaves() {
		bursts(Leaf(p), int64(i), func(what, other string) {
			noHome(t, what, other, p.No)
			noEntry(t, what, other)
		})
	}
	bursts(blank(256), 10, func(what, other string) {
		noHome(t, what, other, 0)
		noEntry(t, what, other)
	})
	for _, kind := range []string{"LEAF", "JPAG", "JEND"} {
		noHome(t, "noughts behind a kind", kind+blank(252), 0)
		noEntry(t, "noughts behind a kind", kind+blank(252))
	}
}

// P10.2: a number changed for another of the same kind is told, as long as the sum stays.
func TestBurstsMeaning(t *testing.T) {
	a, b := Print(ofPage(3, 1, 7, mixed(208, 8))), Print(ofLast(3, 1, 7))
	noEntry(t, "another kind", "JEND"+a[4:])
	noEntry(t, "another kind", "JPAG"+b[4:])
	noEntry(t, "another Seq", a[:4]+"\x00\x00\x00\x04"+a[8:])
	noEntry(t, "another Index", a[:8]+"\x00\x02"+a[10:])
	noEntry(t, "another No", a[:10]+"\x00\x08"+a[12:])
	noEntry(t, "another sum", a[:252]+b[252:])
	noEntry(t, "a sum of noughts", a[:252]+blank(4))
	noEntry(t, "a sum, its highest byte first", a[:252]+string([]byte{a[255], a[254], a[253], a[252]}))
	five, six := Leaf(api.Leaf{No: 5, Data: mixed(208, 8)}), Leaf(api.Leaf{No: 6, Data: mixed(208, 8)})
	for _, no := range []int{5, 6} {
		noHome(t, "page 5 with page 6's sum", five[:252]+six[252:], no)
		noHome(t, "page 5 with page 6's number", five[:4]+six[4:6]+five[6:], no)
	}
}

// The same arguments, the same answers, and what is handed in stays as it was.
func TestAgain(t *testing.T) {
	for _, x := range few() {
		kept, data := x, strings.Clone(x.Data)
		s := Print(x)
		bytes := strings.Clone(s)
		first, _ := Parse(s)
		second, _ := Parse(s)
		if Print(x) != s || first != second || Right(x) != Right(kept) || x != kept || x.Data != data || s != bytes {
			t.Errorf("%+v: other answers, or another entry", kept)
		}
	}
	for _, p := range fewLeaves() {
		kept, data := p, strings.Clone(p.Data)
		s := Leaf(p)
		bytes := strings.Clone(s)
		first, _ := Home(s, p.No)
		second, _ := Home(s, p.No)
		if Leaf(p) != s || first != second || p != kept || p.Data != data || s != bytes {
			t.Errorf("%+v: other answers, or another page", kept)
		}
	}
}

// Any number of goroutines may call at once.
func TestAtOnce(t *testing.T) {
	var all sync.WaitGroup
	for side := range 8 {
		all.Go(func() {
			for _, x := range samples() {
				if got, is := Parse(Print(x)); !Right(x) || got != x || !is {
					t.Errorf("side %d: %+v went wrong", side, x)
				}
			}
			for _, p := range fewLeaves() {
				if got, is := Home(Leaf(p), p.No); got != p.Data || !is {
					t.Errorf("side %d: %+v went wrong", side, p)
				}
			}
		})
	}
	all.Wait()
}
