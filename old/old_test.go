package old

import (
	"encoding/binary"
	"hash/crc32"
	"math"
	"math/rand"
	"slices"
	"strings"
	"sync"
	"testing"

	"archivist/api"
)

const tag = "0123456789abcdef"

// ends are numbers of all kinds, the ends of their type too.
var ends = []int{math.MinInt, math.MinInt + 1, -1 << 32, -1 << 31, -65536, -209, -208, -2, -1, 0, 1, 2, 3, 207, 208, 209, 255, 256, 510, 511, 512, 513, 1499, 1500, 1501, 65535, 65536, 65537, 1<<31 - 1, 1 << 31, 1<<32 - 1, 1 << 32, 1<<32 + 1, math.MaxInt - 1, math.MaxInt}

// takes is how many pages so many bytes need, counted page by page.
func takes(size int) int {
	n := 0
	for room := 0; room < size; room += 208 {
		n++
	}
	return n
}

// object is a record of so many bytes, whose run starts there.
func object(size, start int) api.Record {
	r := api.Record{Item: api.Item{Key: "a/b", Seq: 4, Version: 4, Meta: "meta", ETag: tag}, Size: size}
	if size > 0 {
		r.Spans = []api.Span{{Start: start, Len: takes(size)}}
	}
	return r
}

// mark is the record of a mark.
func mark() api.Record {
	return api.Record{Item: api.Item{Key: "a/b", Seq: 4, Marker: true}}
}

// changed is r, but for what is done to it.
func changed(r api.Record, change func(r *api.Record)) api.Record {
	r.Spans = slices.Clone(r.Spans)
	change(&r)
	return r
}

// same tells whether two records are the same, a list that holds nothing being nil or empty.
func same(a, b api.Record) bool {
	return a.Item == b.Item && a.Size == b.Size && slices.Equal(a.Spans, b.Spans)
}

// sealed is s, and the library's sum of it.
func sealed(s string) string {
	sum := crc32.Checksum([]byte(s), crc32.MakeTable(crc32.Castagnoli))
	return s + string(binary.LittleEndian.AppendUint32(nil, sum))
}

// raw is what stands ahead of the sum, each number as it is written; by the more of a text its length is told wrongly.
type raw struct {
	kind            string
	meta, tag, key  string
	seq, version    uint32
	marker          string
	size, start     uint16
	behind          string
	moreOfMeta      int
	moreOfTag       int
	moreOfKey       int
	numbersLowFirst bool
}

// bytes writes it by P7.1's words, byte by byte.
func (w raw) bytes() string {
	var order binary.AppendByteOrder = binary.BigEndian
	if w.numbersLowFirst {
		order = binary.LittleEndian
	}
	b := []byte(w.kind)
	for _, text := range []struct {
		s    string
		more int
	}{{w.meta, w.moreOfMeta}, {w.tag, w.moreOfTag}, {w.key, w.moreOfKey}} {
		b = order.AppendUint16(b, uint16(len(text.s)+text.more))
		b = append(b, text.s...)
	}
	b = order.AppendUint32(b, w.seq)
	b = order.AppendUint32(b, w.version)
	b = append(b, w.marker...)
	b = order.AppendUint16(b, w.size)
	b = order.AppendUint16(b, w.start)
	return string(append(b, w.behind...))
}

// of is what r's bytes are to be.
func of(r api.Record) raw {
	w := raw{kind: "OBJ1", meta: r.Item.Meta, tag: r.Item.ETag, key: r.Item.Key, seq: uint32(r.Item.Seq), version: uint32(r.Item.Version), marker: "\x00", size: uint16(r.Size)}
	if r.Item.Marker {
		w.marker = "\x01"
	}
	if len(r.Spans) > 0 {
		w.start = uint16(r.Spans[0].Start)
	}
	return w
}

// samples are records: each field at its edges, with the others as they mostly are.
func samples() []api.Record {
	all := []api.Record{object(300, 9), mark()}
	for size := range 1501 {
		all = append(all, object(size, 1), object(size, 512-takes(size)), object(size, 100))
	}
	for start := 1; start <= 504; start++ {
		all = append(all, object(1500, start), object(1, start), object(208, start))
	}
	for n := range 41 {
		all = append(all, changed(object(300, 9), func(r *api.Record) { r.Item.Meta = strings.Repeat("m", n) }))
	}
	for n := 16; n <= 24; n++ {
		all = append(all, changed(object(300, 9), func(r *api.Record) { r.Item.ETag = strings.Repeat("e", n) }))
	}
	for _, r := range []api.Record{object(300, 9), object(0, 0), mark()} {
		for n := 1; n <= 24; n++ {
			all = append(all, changed(r, func(r *api.Record) { r.Item.Key = strings.Repeat("k", n) }))
		}
		for _, key := range []string{"\xff\x01", "ż", "OBJ1", "\x01", strings.Repeat("\xff", 24)} {
			all = append(all, changed(r, func(r *api.Record) { r.Item.Key = key }))
		}
		for _, seq := range []int{1, 2, 255, 256, 65535, 65536, 1 << 24, 1<<31 - 2, 1<<31 - 1} {
			for _, version := range []int{0, seq} {
				all = append(all, changed(r, func(r *api.Record) { r.Item.Seq, r.Item.Version = seq, version }))
			}
		}
	}
	for _, size := range []int{0, 1, 208, 209, 1500} {
		all = append(all, changed(object(size, 512-takes(size)), func(r *api.Record) {
			r.Item = api.Item{Key: strings.Repeat("k", 24), Seq: 1<<31 - 1, Version: 1<<31 - 1, Meta: strings.Repeat("\x00", 40), ETag: strings.Repeat("\xff", 24)}
		}), changed(object(size, 1), func(r *api.Record) {
			r.Item = api.Item{Key: "k", Seq: 1, ETag: tag}
		}))
	}
	return all
}

// P7.1: records at their edges are right.
func TestRight(t *testing.T) {
	for _, r := range samples() {
		if !Right(r) {
			t.Errorf("%+v isn't right", r)
		}
	}
}

// P7.1: how many pages a Size takes, at the edges that are written down.
func TestRightPages(t *testing.T) {
	for _, c := range []struct{ size, pages int }{
		{1, 1}, {207, 1}, {208, 1}, {209, 2}, {300, 2}, {416, 2}, {417, 3}, {624, 3}, {625, 4}, {832, 4}, {833, 5}, {1040, 5}, {1041, 6}, {1248, 6}, {1249, 7}, {1456, 7}, {1457, 8}, {1500, 8},
	} {
		for n := -1; n <= 10; n++ {
			r := changed(object(c.size, 9), func(r *api.Record) { r.Spans[0].Len = n })
			if got, want := Right(r), n == c.pages; got != want {
				t.Errorf("%d bytes in %d pages: %v", c.size, n, got)
			}
		}
	}
}

// P7.1: a Size that may be, of an object and of a mark.
func TestRightSize(t *testing.T) {
	for _, size := range append(ends, -1457, -1500, -1501, 1456, 1457, 1502, 1664, 1665) {
		for _, spans := range [][]api.Span{nil, {}, {{}}, {{Start: 9}}, {{Start: 9, Len: 1}}, {{Start: 9, Len: 2}}, {{Start: 9, Len: 8}}, {{Start: 9, Len: 9}}} {
			r := changed(object(1, 9), func(r *api.Record) { r.Size, r.Spans = size, spans })
			want := size == 0 && len(spans) == 0 ||
				1 <= size && size <= 1500 && len(spans) == 1 && spans[0].Start == 9 && spans[0].Len == takes(size)
			if got := Right(r); got != want {
				t.Errorf("Size %d with %v: %v", size, spans, got)
			}
			m := changed(mark(), func(r *api.Record) { r.Size, r.Spans = size, spans })
			if got, want := Right(m), size == 0 && len(spans) == 0; got != want {
				t.Errorf("a mark of Size %d with %v: %v", size, spans, got)
			}
		}
	}
}

// P7.1: the run goes from page 1 on, below page 512, whatever numbers it has.
func TestRightRun(t *testing.T) {
	starts := slices.Clone(ends)
	for start := 500; start < 515; start++ {
		starts = append(starts, start)
	}
	for _, size := range []int{1, 208, 209, 416, 417, 1456, 1457, 1500} {
		for _, start := range starts {
			// A run's last page: reckoned only where it can't be cut.
			want := start >= 1 && start < 512 && start+takes(size)-1 <= 511
			if got := Right(object(size, start)); got != want {
				t.Errorf("%d bytes from page %d on: %v", size, start, got)
			}
			for _, n := range append(ends, math.MinInt+start, math.MaxInt-start, 512-start) {
				r := changed(object(size, start), func(r *api.Record) { r.Spans[0].Len = n })
				if got, want := Right(r), want && n == takes(size); got != want {
					t.Errorf("%d bytes from page %d on, %d pages: %v", size, start, n, got)
				}
			}
		}
	}
}

// P7.1: one run, and none of Size 0.
func TestRightRuns(t *testing.T) {
	for _, c := range []struct {
		what  string
		size  int
		spans []api.Span
		want  bool
	}{
		{"one run", 300, []api.Span{{Start: 9, Len: 2}}, true},
		{"none", 300, nil, false},
		{"an empty list", 300, []api.Span{}, false},
		{"two runs apart", 300, []api.Span{{Start: 9, Len: 1}, {Start: 20, Len: 1}}, false},
		{"two runs side by side", 300, []api.Span{{Start: 9, Len: 1}, {Start: 10, Len: 1}}, false},
		{"one run, twice", 300, []api.Span{{Start: 9, Len: 2}, {Start: 9, Len: 2}}, false},
		{"a run, and one of no page", 300, []api.Span{{Start: 9, Len: 2}, {}}, false},
		{"one of no page, and a run", 300, []api.Span{{}, {Start: 9, Len: 2}}, false},
		{"a run backwards", 300, []api.Span{{Start: 10, Len: -2}}, false},
		{"from page 0 on", 300, []api.Span{{Start: 0, Len: 2}}, false},
		{"the last pages", 300, []api.Span{{Start: 510, Len: 2}}, true},
		{"to page 512", 300, []api.Span{{Start: 511, Len: 2}}, false},
		{"beyond page 512", 300, []api.Span{{Start: 512, Len: 2}}, false},
		{"none of Size 0", 0, nil, true},
		{"an empty list of Size 0", 0, []api.Span{}, true},
		{"a run of Size 0", 0, []api.Span{{Start: 9, Len: 1}}, false},
		{"a run of no page of Size 0", 0, []api.Span{{Start: 9, Len: 0}}, false},
		{"a zero run of Size 0", 0, []api.Span{{}}, false},
	} {
		r := changed(object(c.size, 9), func(r *api.Record) { r.Spans = c.spans })
		if got := Right(r); got != c.want {
			t.Errorf("%s: %v", c.what, got)
		}
	}
}

// wrongItems are what is done to a record of an object so that its item may not be, or has a Body.
func wrongItems() map[string]func(r *api.Record) {
	return map[string]func(r *api.Record){
		"no Key":              func(r *api.Record) { r.Item.Key = "" },
		"a Key with a 0":      func(r *api.Record) { r.Item.Key = "a\x00b" },
		"a Key of 25 bytes":   func(r *api.Record) { r.Item.Key = strings.Repeat("k", 25) },
		"Seq 0":               func(r *api.Record) { r.Item.Seq, r.Item.Version = 0, 0 },
		"Seq -1":              func(r *api.Record) { r.Item.Seq, r.Item.Version = -1, 0 },
		"Seq 2^31":            func(r *api.Record) { r.Item.Seq, r.Item.Version = 1<<31, 0 },
		"Seq 2^31, Version":   func(r *api.Record) { r.Item.Seq, r.Item.Version = 1<<31, 1<<31 },
		"Seq 2^32 + 4":        func(r *api.Record) { r.Item.Seq, r.Item.Version = 1<<32+4, 0 },
		"another's Version":   func(r *api.Record) { r.Item.Version = 3 },
		"Version -1":          func(r *api.Record) { r.Item.Version = -1 },
		"Meta of 41 bytes":    func(r *api.Record) { r.Item.Meta = strings.Repeat("m", 41) },
		"no ETag":             func(r *api.Record) { r.Item.ETag = "" },
		"an ETag of 15 bytes": func(r *api.Record) { r.Item.ETag = tag[1:] },
		"an ETag of 25 bytes": func(r *api.Record) { r.Item.ETag = strings.Repeat("e", 25) },
		"a mark with texts":   func(r *api.Record) { r.Item.Marker, r.Size, r.Spans = true, 0, nil },
		"a mark with an ETag": func(r *api.Record) { r.Item.Marker, r.Item.Meta, r.Size, r.Spans = true, "", 0, nil },
		"a mark with Meta":    func(r *api.Record) { r.Item.Marker, r.Item.ETag, r.Size, r.Spans = true, "", 0, nil },
		"a mark with bytes":   func(r *api.Record) { r.Item.Marker, r.Item.ETag, r.Item.Meta = true, "", "" },
		"a mark with a Size":  func(r *api.Record) { r.Item.Marker, r.Item.ETag, r.Item.Meta, r.Spans = true, "", "", nil },
		"no mark, no texts":   func(r *api.Record) { r.Item.ETag, r.Item.Meta, r.Size, r.Spans = "", "", 0, nil },
		"a Body":              func(r *api.Record) { r.Item.Body = "x" },
		"a Body of its Size":  func(r *api.Record) { r.Item.Body = strings.Repeat("x", 300) },
		"too long a Body":     func(r *api.Record) { r.Item.Body = strings.Repeat("x", 1501) },
		"a mark with a Body":  func(r *api.Record) { *r = mark(); r.Item.Body = "x" },
		"the zero record":     func(r *api.Record) { *r = api.Record{} },
	}
}

// P7.1: a record's item may be, and has no Body.
func TestRightItem(t *testing.T) {
	for what, change := range wrongItems() {
		if Right(changed(object(300, 9), change)) {
			t.Errorf("%s: right", what)
		}
	}
	if Right(changed(object(0, 0), func(r *api.Record) { r.Item.Body = "x" })) {
		t.Error("a Body of Size 0: right")
	}
}

// P7.1: records' bytes, written out.
func TestPrintKnown(t *testing.T) {
	for _, c := range []struct {
		what string
		r    api.Record
		want string
	}{
		{"300 bytes", object(300, 9), "OBJ1\x00\x04meta\x00\x100123456789abcdef\x00\x03a/b\x00\x00\x00\x04\x00\x00\x00\x04\x00\x01\x2c\x00\x09"},
		{"no bytes", object(0, 0), "OBJ1\x00\x04meta\x00\x100123456789abcdef\x00\x03a/b\x00\x00\x00\x04\x00\x00\x00\x04\x00\x00\x00\x00\x00"},
		{"a mark", mark(), "OBJ1\x00\x00\x00\x00\x00\x03a/b\x00\x00\x00\x04\x00\x00\x00\x00\x01\x00\x00\x00\x00"},
		{"the most bytes, in the last pages", changed(object(1500, 504), func(r *api.Record) {
			r.Item = api.Item{Key: "k", Seq: 1<<31 - 1, Version: 0, ETag: tag + "-6"}
		}), "OBJ1\x00\x00\x00\x120123456789abcdef-6\x00\x01k\x7f\xff\xff\xff\x00\x00\x00\x00\x00\x05\xdc\x01\xf8"},
	} {
		if got := Print(c.r); got != sealed(c.want) {
			t.Errorf("%s: %q, want %q", c.what, got, sealed(c.want))
		}
	}
	if got, want := Print(object(300, 9)), "\x81\x5f\x9b\xb6"; got[len(got)-4:] != want {
		t.Errorf("the seal of 300 bytes: %q, want %q", got[len(got)-4:], want)
	}
}

// P7.1: each field has its own place, and nothing else stands there.
func TestPrint(t *testing.T) {
	for _, r := range samples() {
		if got, want := Print(r), sealed(of(r).bytes()); got != want {
			t.Errorf("%+v: %q, want %q", r, got, want)
		}
	}
}

// P7.1: what is no record has bytes by the same words, numbers and texts cut as layer 3 cuts them.
func TestPrintRaw(t *testing.T) {
	long := strings.Repeat("x", 70000)
	for _, n := range ends {
		r := api.Record{Item: api.Item{Seq: n, Version: -n, Marker: true, Meta: "m", ETag: "e", Body: "b"}, Size: n, Spans: []api.Span{{Start: n, Len: n}, {Start: 7, Len: 8}}}
		if got, want := Print(r), sealed(of(r).bytes()); got != want {
			t.Errorf("%+v: %q, want %q", r, got, want)
		}
	}
	for what, change := range wrongItems() {
		r := changed(object(300, 9), change)
		if got, want := Print(r), sealed(of(r).bytes()); got != want {
			t.Errorf("%s: %q, want %q", what, got, want)
		}
	}
	got := Print(changed(object(300, 9), func(r *api.Record) { r.Item.Meta, r.Item.ETag, r.Item.Key = long, long, long }))
	want := of(object(300, 9))
	want.meta, want.tag, want.key = long[:65535], long[:65535], long[:65535]
	if got != sealed(want.bytes()) {
		t.Errorf("texts of 70000 bytes: %d bytes, want %d", len(got), len(sealed(want.bytes())))
	}
}

// P7.1, P7.2: a record there and back.
func TestThereAndBack(t *testing.T) {
	for _, r := range samples() {
		got, is := Parse(Print(r))
		if !is || !same(got, r) {
			t.Errorf("%+v: %+v, %v", r, got, is)
		}
	}
}

// P7.2: there and back, with all fields at once as they come.
func TestThereAndBackRandom(t *testing.T) {
	random := rand.New(rand.NewSource(7))
	text := func(least, most, lowest int) string {
		b := make([]byte, least+random.Intn(most-least+1))
		for i := range b {
			b[i] = byte(lowest + random.Intn(256-lowest))
		}
		return string(b)
	}
	seen := map[string]api.Record{}
	for range 20000 {
		size := random.Intn(1501)
		r := object(size, 1+random.Intn(512-max(takes(size), 1)))
		r.Item = api.Item{Key: text(1, 24, 1), Seq: 1 + random.Intn(math.MaxInt32), Meta: text(0, 40, 0), ETag: text(16, 24, 0)}
		r.Item.Version = r.Item.Seq * random.Intn(2)
		if random.Intn(4) == 0 {
			r = api.Record{Item: api.Item{Key: r.Item.Key, Seq: r.Item.Seq, Version: r.Item.Version, Marker: true}}
		}
		s := Print(r)
		got, is := Parse(s)
		if !is || !same(got, r) {
			t.Fatalf("%+v: %+v, %v", r, got, is)
		}
		if other, is := seen[s]; is && !same(other, r) {
			t.Fatalf("%+v has the bytes of %+v", r, other)
		}
		seen[s] = r
	}
}

// none checks that s is no record's bytes.
func none(t *testing.T, what, s string) {
	t.Helper()
	if r, is := Parse(s); is || !same(r, api.Record{}) {
		t.Errorf("%s: Parse(%q): %+v, %v", what, s, r, is)
	}
}

// few are records of each kind, for what is tried of each byte.
func few() []api.Record {
	return []api.Record{
		object(300, 9), object(0, 0), mark(), object(1500, 504), object(1, 1),
		changed(object(209, 510), func(r *api.Record) {
			r.Item = api.Item{Key: strings.Repeat("k", 24), Seq: 1<<31 - 1, Version: 1<<31 - 1, Meta: strings.Repeat("m", 40), ETag: strings.Repeat("e", 24)}
		}),
		{Item: api.Item{Key: "k", Seq: 1, ETag: tag}},
	}
}

// P7.1, P7.2: bytes cut off anywhere, and bytes behind the end or ahead of the beginning, sealed anew too.
func TestParseCut(t *testing.T) {
	none(t, "no bytes", "")
	none(t, "no bytes, sealed", sealed(""))
	for _, r := range few() {
		s := Print(r)
		inside := of(r).bytes()
		for n := range len(s) {
			none(t, "cut off", s[:n])
			none(t, "cut off ahead", s[n+1:])
			none(t, "one byte less", s[:n]+s[n+1:])
		}
		for n := range len(inside) {
			none(t, "cut off, and sealed", sealed(inside[:n]))
			none(t, "cut off ahead, and sealed", sealed(inside[n+1:]))
		}
		for _, more := range []string{"\x00", "\x01", "x", "\x00\x00", "\x00\x00\x00\x00", s} {
			none(t, "bytes behind", s+more)
			none(t, "bytes behind, and sealed", sealed(inside+more))
			none(t, "bytes ahead", more+s)
			none(t, "bytes ahead, and sealed", sealed(more+inside))
		}
		none(t, "sealed twice", sealed(s))
		none(t, "without its seal", inside)
	}
}

// P7.2: each one other byte, anywhere, and up to four side by side.
func TestParseSpoilt(t *testing.T) {
	random := rand.New(rand.NewSource(77))
	for _, r := range few() {
		s := Print(r)
		for at := range len(s) {
			for other := 1; other < 256; other++ {
				b := []byte(s)
				b[at] ^= byte(other)
				none(t, "one other byte", string(b))
			}
			for wide := 2; wide <= 4 && at+wide <= len(s); wide++ {
				for range 50 {
					b := []byte(s)
					for i := range wide {
						b[at+i] = byte(random.Intn(256))
					}
					if string(b) != s {
						none(t, "other bytes side by side", string(b))
					}
				}
			}
		}
	}
}

// P7.2: bytes that a right seal stands behind are a record's only if they are its Print.
func TestParseSealed(t *testing.T) {
	random := rand.New(rand.NewSource(777))
	found := 0
	for _, r := range few() {
		inside := of(r).bytes()
		for at := range len(inside) {
			for other := range 256 {
				b := []byte(inside)
				b[at] = byte(other)
				if at+1 < len(b) && random.Intn(4) == 0 {
					b[at+1] = byte(random.Intn(256))
				}
				s := sealed(string(b))
				got, is := Parse(s)
				if is && (!Right(got) || Print(got) != s) || !is && !same(got, api.Record{}) {
					t.Fatalf("Parse(%q): %+v, %v", s, got, is)
				}
				if is {
					found++
				}
			}
		}
	}
	if found < 1000 {
		t.Errorf("only %d of the bytes were records", found)
	}
}

type rawCase struct {
	what   string
	change func(w *raw)
}

func areNone(t *testing.T, r api.Record, cases []rawCase) {
	t.Helper()
	for _, c := range cases {
		w := of(r)
		c.change(&w)
		none(t, c.what, sealed(w.bytes()))
	}
}

// P7.1: bytes of another kind, with a right seal.
func TestParseKind(t *testing.T) {
	for _, r := range few() {
		for _, kind := range []string{"OBJ2", "OBJ0", "OBJ", "obj1", "OBJ11", "", "\x00\x00\x00\x00", "1JBO"} {
			areNone(t, r, []rawCase{{kind, func(w *raw) { w.kind = kind }}})
		}
	}
	none(t, "a text", sealed("a text of another kind"))
	none(t, "the kind alone", sealed("OBJ1"))
	none(t, "noughts", strings.Repeat("\x00", 208))
	none(t, "noughts, sealed", sealed(strings.Repeat("\x00", 208)))
	none(t, "ones", sealed("OBJ1"+strings.Repeat("\xff", 208)))
	fresh := "OBJ2\x00\x01k\x00\x00\x00\x01\x00\x00\x00\x00\x00\x00\x00\x00\x00\x00\x10" + tag + "\x00\x00"
	none(t, "one of the fresh format", sealed(fresh))
	none(t, "one of the fresh format by the old one's name", sealed("OBJ1"+fresh[4:]))
}

// P7.1: texts that may not be, or that go beyond the end, with a right seal.
func TestParseTexts(t *testing.T) {
	areNone(t, object(300, 9), []rawCase{
		{"Meta of 41 bytes", func(w *raw) { w.meta = strings.Repeat("m", 41) }},
		{"Meta of 65535 bytes", func(w *raw) { w.meta = strings.Repeat("m", 65535) }},
		{"no ETag", func(w *raw) { w.tag = "" }},
		{"an ETag of 15 bytes", func(w *raw) { w.tag = tag[1:] }},
		{"an ETag of 25 bytes", func(w *raw) { w.tag = strings.Repeat("e", 25) }},
		{"no Key", func(w *raw) { w.key = "" }},
		{"a Key of 25 bytes", func(w *raw) { w.key = strings.Repeat("k", 25) }},
		{"a Key with a 0", func(w *raw) { w.key = "a\x00" }},
		{"a Key that is a 0", func(w *raw) { w.key = "\x00" }},
		{"Meta that is told as longer", func(w *raw) { w.moreOfMeta = 1 }},
		{"Meta that is told as shorter", func(w *raw) { w.moreOfMeta = -1 }},
		{"Meta that is told as far longer", func(w *raw) { w.moreOfMeta = 65000 }},
		{"an ETag that is told as longer", func(w *raw) { w.moreOfTag = 1 }},
		{"a Key that is told as longer", func(w *raw) { w.moreOfKey = 1 }},
		{"a Key that is told as shorter", func(w *raw) { w.moreOfKey = -1 }},
		{"Key and Meta in one another's place", func(w *raw) { w.meta, w.key = w.key, strings.Repeat("m", 30) }},
	})
	areNone(t, mark(), []rawCase{
		{"a mark with Meta", func(w *raw) { w.meta = "m" }},
		{"a mark with an ETag", func(w *raw) { w.tag = tag }},
		{"a mark with a short ETag", func(w *raw) { w.tag = "e" }},
		{"a mark without a Key", func(w *raw) { w.key = "" }},
		{"no mark, and no ETag", func(w *raw) { w.marker = "\x00" }},
	})
}

// P7.1: numbers that may not be, with a right seal.
func TestParseNumbers(t *testing.T) {
	areNone(t, object(300, 9), []rawCase{
		{"Seq 0", func(w *raw) { w.seq, w.version = 0, 0 }},
		{"Seq 2^31", func(w *raw) { w.seq, w.version = 1<<31, 0 }},
		{"Seq and Version 2^31", func(w *raw) { w.seq, w.version = 1<<31, 1<<31 }},
		{"Seq and Version 2^32 - 1", func(w *raw) { w.seq, w.version = 1<<32-1, 1<<32-1 }},
		{"a Version below Seq", func(w *raw) { w.version = 3 }},
		{"a Version above Seq", func(w *raw) { w.version = 5 }},
		{"a Version of 2^32 - 1", func(w *raw) { w.version = 1<<32 - 1 }},
		{"the lowest byte first", func(w *raw) { w.numbersLowFirst = true }},
		{"a Marker's byte of 1, of an object", func(w *raw) { w.marker = "\x01" }},
		{"no Marker's byte", func(w *raw) { w.marker = "" }},
		{"two Marker's bytes", func(w *raw) { w.marker = "\x00\x00" }},
		{"a byte behind the end", func(w *raw) { w.behind = "\x00" }},
	})
	for _, r := range few() {
		for b := 2; b < 256; b++ {
			areNone(t, r, []rawCase{{"a Marker's byte that is neither", func(w *raw) { w.marker = string([]byte{byte(b)}) }}})
		}
	}
}

// P7.1: each Size and each start that two bytes can tell, with a right seal.
func TestParsePlaces(t *testing.T) {
	for n := range 65536 {
		want := object(300, n)
		w := of(want)
		if n == 0 || n > 510 {
			none(t, "300 bytes", sealed(w.bytes()))
		} else if got, is := Parse(sealed(w.bytes())); !is || !same(got, want) {
			t.Errorf("300 bytes from page %d on: %+v, %v", n, got, is)
		}
		w = of(object(300, 9))
		w.size = uint16(n)
		if n == 0 || n > 1500 {
			none(t, "from page 9 on", sealed(w.bytes()))
		} else if got, is := Parse(sealed(w.bytes())); !is || !same(got, object(n, 9)) {
			t.Errorf("%d bytes from page 9 on: %+v, %v", n, got, is)
		}
		if n > 0 {
			for _, r := range []api.Record{object(0, 0), mark()} {
				areNone(t, r, []rawCase{
					{"no bytes, but a run", func(w *raw) { w.start = uint16(n) }},
					{"bytes, but no run", func(w *raw) { w.size = uint16(n) }},
				})
			}
			areNone(t, mark(), []rawCase{{"a mark with bytes", func(w *raw) { w.size, w.start = 1, uint16(n) }}})
		}
	}
	for size := 1; size <= 1500; size++ {
		last := 512 - takes(size)
		if got, is := Parse(sealed(of(object(size, last)).bytes())); !is || !same(got, object(size, last)) {
			t.Errorf("%d bytes in the last pages: %+v, %v", size, got, is)
		}
		none(t, "to page 512", sealed(of(object(size, last+1)).bytes()))
	}
}

// P7.1: what isn't right isn't parsed, unless its bytes are those of a record that is.
func TestParseWrongRecords(t *testing.T) {
	for what, change := range wrongItems() {
		s := Print(changed(object(300, 9), change))
		got, is := Parse(s)
		if is && (!Right(got) || Print(got) != s || got.Item.Body != "") || !is && !same(got, api.Record{}) {
			t.Errorf("%s: %+v, %v", what, got, is)
		}
	}
}

// Rule 3: neither the runs that are handed in nor their spare room are changed, and an answer's runs are its own.
func TestNothingHandedInIsChanged(t *testing.T) {
	room := []api.Span{{Start: 9, Len: 2}, {Start: 70, Len: 71}, {Start: 80, Len: 81}}
	before := slices.Clone(room)
	r := object(300, 9)
	r.Spans = room[:1]
	right, s := Right(r), Print(r)
	if !slices.Equal(room, before) || !right {
		t.Errorf("%v, %v", room, right)
	}
	one, _ := Parse(s)
	two, _ := Parse(s)
	one.Spans[0] = api.Span{Start: 1, Len: 1}
	if !same(two, object(300, 9)) || !slices.Equal(room, before) {
		t.Errorf("%+v, %v", two, room)
	}
	room[0].Start = 33
	if again, is := Parse(s); !is || !same(again, object(300, 9)) {
		t.Errorf("%+v, %v", again, is)
	}
}

// Rule 6: any number of goroutines may call at once.
func TestAtOnce(t *testing.T) {
	r := object(300, 9)
	s := Print(r)
	var all sync.WaitGroup
	for range 8 {
		all.Add(1)
		go func() {
			defer all.Done()
			for range 200 {
				got, is := Parse(s)
				if !is || !same(got, r) || !Right(r) || Print(r) != s {
					t.Errorf("%+v, %v", got, is)
				}
			}
		}()
	}
	all.Wait()
}
