package fresh

import (
	"encoding/binary"
	"hash/crc32"
	"math"
	"math/rand"
	"slices"
	"strings"
	"sync"
	"testing"

	"archivist/api"
	"archivist/old"
)

const tag = "0123456789abcdef"

// ends are numbers of all kinds, the ends of their type too.
var ends = []int{math.MinInt, math.MinInt + 1, -1 << 32, -1 << 31, -65536, -209, -208, -2, -1, 0, 1, 2, 3, 207, 208, 209, 255, 256, 510, 511, 512, 513, 1499, 1500, 1501, 65535, 65536, 65537, 1<<31 - 1, 1 << 31, 1<<32 - 1, 1 << 32, 1<<32 + 1, math.MaxInt - 1, math.MaxInt}

// takes is how many pages so many bytes need, counted page by page.
func takes(size int) int {
	n := 0
	for room := 0; room < size; room += 208 {
		n++
	}
	return n
}

// object is a record of so many bytes, in those runs.
func object(size int, runs ...api.Span) api.Record {
	return api.Record{Item: api.Item{Key: "a/b", Seq: 4, Version: 4, Meta: "meta", ETag: tag}, Size: size, Spans: runs}
}

// whole is a record of so many bytes in one run that starts there.
func whole(size, start int) api.Record {
	if size == 0 {
		return object(0)
	}
	return object(size, api.Span{Start: start, Len: takes(size)})
}

// single is a run of one page.
func single(page int) api.Span {
	return api.Span{Start: page, Len: 1}
}

// scattered is a record of so many bytes in runs of one page each, so many pages from one to the next.
func scattered(size, start, step int) api.Record {
	r := object(size)
	for i := range takes(size) {
		r.Spans = append(r.Spans, single(start+i*step))
	}
	return r
}

// mark is the record of a mark.
func mark() api.Record {
	return api.Record{Item: api.Item{Key: "a/b", Seq: 4, Marker: true}}
}

// changed is r, but for what is done to it.
func changed(r api.Record, change func(r *api.Record)) api.Record {
	r.Spans = slices.Clone(r.Spans)
	change(&r)
	return r
}

// same tells whether two records are the same, a list that holds nothing being nil or empty.
func same(a, b api.Record) bool {
	return a.Item == b.Item && a.Size == b.Size && slices.Equal(a.Spans, b.Spans)
}

// sealed is s, and the library's sum of it.
func sealed(s string) string {
	sum := crc32.Checksum([]byte(s), crc32.MakeTable(crc32.Castagnoli))
	return s + string(binary.LittleEndian.AppendUint32(nil, sum))
}

// raw is what stands ahead of the sum, each number as it is written; by the more of a text or of the runs how many there are is told wrongly.
type raw struct {
	kind            string
	key, tag, meta  string
	seq, version    uint32
	marker          string
	size            uint16
	runs            [][2]uint16
	behind          string
	moreOfKey       int
	moreOfTag       int
	moreOfMeta      int
	moreRuns        int
	numbersLowFirst bool
}

// bytes writes it by P8.1's words, byte by byte.
func (w raw) bytes() string {
	var order binary.AppendByteOrder = binary.BigEndian
	if w.numbersLowFirst {
		order = binary.LittleEndian
	}
	text := func(b []byte, s string, more int) []byte {
		return append(order.AppendUint16(b, uint16(len(s)+more)), s...)
	}
	b := text([]byte(w.kind), w.key, w.moreOfKey)
	b = order.AppendUint32(b, w.seq)
	b = order.AppendUint32(b, w.version)
	b = append(b, w.marker...)
	b = order.AppendUint16(b, w.size)
	b = order.AppendUint16(b, uint16(len(w.runs)+w.moreRuns))
	for _, run := range w.runs {
		b = order.AppendUint16(b, run[0])
		b = order.AppendUint16(b, run[1])
	}
	b = text(b, w.tag, w.moreOfTag)
	b = text(b, w.meta, w.moreOfMeta)
	return string(append(b, w.behind...))
}

// of is what r's bytes are to be.
func of(r api.Record) raw {
	w := raw{kind: "OBJ2", key: r.Item.Key, tag: r.Item.ETag, meta: r.Item.Meta, seq: uint32(r.Item.Seq), version: uint32(r.Item.Version), marker: "\x00", size: uint16(r.Size)}
	if r.Item.Marker {
		w.marker = "\x01"
	}
	for _, run := range r.Spans {
		w.runs = append(w.runs, [2]uint16{uint16(run.Start), uint16(run.Len)})
	}
	return w
}

// mayBe tells by marks of single pages whether runs are those of so many pages: an other way than the program's.
func mayBe(runs []api.Span, count int) bool {
	var taken [514]bool
	highest := 0
	for _, run := range runs {
		if run.Start <= highest || run.Start > 511 || run.Len < 1 || run.Len > 511 {
			return false
		}
		for page := run.Start; page < run.Start+run.Len; page++ {
			if page > 511 || taken[page] || page == run.Start && taken[page-1] {
				return false
			}
			taken[page] = true
			count--
		}
		highest = run.Start + run.Len - 1
	}
	return count == 0
}

// splits are all ways of so many pages in runs, the runs' lengths in order.
func splits(count int) [][]int {
	if count == 0 {
		return [][]int{nil}
	}
	var all [][]int
	for first := 1; first <= count; first++ {
		for _, rest := range splits(count - first) {
			all = append(all, append([]int{first}, rest...))
		}
	}
	return all
}

// laid is runs of those lengths, from that page on, with so many pages between them.
func laid(lengths []int, start, between int) []api.Span {
	var runs []api.Span
	for _, n := range lengths {
		runs = append(runs, api.Span{Start: start, Len: n})
		start += n + between
	}
	return runs
}

// longest is a record whose texts and numbers are the greatest that may be.
func longest(r api.Record) api.Record {
	r.Item = api.Item{Key: strings.Repeat("k", 24), Seq: 1<<31 - 1, Version: 1<<31 - 1, Meta: strings.Repeat("\x00", 40), ETag: strings.Repeat("\xff", 24)}
	return r
}

// places are records by where their bytes stand.
func places() []api.Record {
	all := []api.Record{object(300, single(3), single(9)), mark(), object(0), changed(object(0), func(r *api.Record) { r.Spans = []api.Span{} })}
	for size := range 1501 {
		n := takes(size)
		all = append(all, whole(size, 1), whole(size, 512-n), whole(size, 100))
		all = append(all, scattered(size, 1, 2), scattered(size, 513-2*n, 2), scattered(size, 7, 63))
	}
	for start := 1; start <= 504; start++ {
		all = append(all, whole(1500, start), whole(1, start), whole(208, start))
	}
	for start := 1; start <= 497; start++ {
		all = append(all, scattered(1500, start, 2))
	}
	for size := 1; size <= 1500; size += 104 {
		for _, lengths := range splits(takes(size)) {
			last := 512 - takes(size) - (len(lengths) - 1)
			all = append(all, object(size, laid(lengths, 1, 1)...), object(size, laid(lengths, last, 1)...), object(size, laid(lengths, 33, 5)...))
		}
	}
	return all
}

// samples are records: each field at its edges, with the others as they mostly are.
func samples() []api.Record {
	all := places()
	two := object(300, single(3), single(9))
	for n := range 41 {
		all = append(all, changed(two, func(r *api.Record) { r.Item.Meta = strings.Repeat("m", n) }))
	}
	for n := 16; n <= 24; n++ {
		all = append(all, changed(two, func(r *api.Record) { r.Item.ETag = strings.Repeat("e", n) }))
	}
	for _, r := range []api.Record{two, whole(300, 9), object(0), mark()} {
		for n := 1; n <= 24; n++ {
			all = append(all, changed(r, func(r *api.Record) { r.Item.Key = strings.Repeat("k", n) }))
		}
		for _, key := range []string{"\xff\x01", "ż", "OBJ2", "\x01", strings.Repeat("\xff", 24)} {
			all = append(all, changed(r, func(r *api.Record) { r.Item.Key = key }))
		}
		for _, seq := range []int{1, 2, 255, 256, 65535, 65536, 1 << 24, 1<<31 - 2, 1<<31 - 1} {
			for _, version := range []int{0, seq} {
				all = append(all, changed(r, func(r *api.Record) { r.Item.Seq, r.Item.Version = seq, version }))
			}
		}
	}
	for _, size := range []int{0, 1, 208, 209, 1500} {
		all = append(all, longest(whole(size, 512-takes(size))), longest(scattered(size, 1, 2)), changed(whole(size, 1), func(r *api.Record) {
			r.Item = api.Item{Key: "k", Seq: 1, ETag: tag}
		}))
	}
	return all
}

// P8.1: records at their edges are right.
func TestRight(t *testing.T) {
	for _, r := range samples() {
		if !Right(r) {
			t.Errorf("%+v isn't right", r)
		}
	}
}

// P8.1: how many pages a Size takes, at the edges that are written down, in one run and in runs of one page each.
func TestRightPages(t *testing.T) {
	for _, c := range []struct{ size, pages int }{
		{0, 0}, {1, 1}, {207, 1}, {208, 1}, {209, 2}, {300, 2}, {416, 2}, {417, 3}, {624, 3}, {625, 4}, {832, 4}, {833, 5}, {1040, 5}, {1041, 6}, {1248, 6}, {1249, 7}, {1456, 7}, {1457, 8}, {1500, 8},
	} {
		for n := -1; n <= 10; n++ {
			if got, want := Right(object(c.size, api.Span{Start: 9, Len: n})), n == c.pages && n > 0; got != want {
				t.Errorf("%d bytes in a run of %d pages: %v", c.size, n, got)
			}
			var runs []api.Span
			for i := range max(n, 0) {
				runs = append(runs, single(9+3*i))
			}
			if got, want := Right(object(c.size, runs...)), max(n, 0) == c.pages; got != want {
				t.Errorf("%d bytes in %d runs of a page: %v", c.size, n, got)
			}
		}
	}
}

// P8.1: a Size that may be, of an object and of a mark.
func TestRightSize(t *testing.T) {
	for _, size := range append(ends, -1457, -1500, -1501, 1456, 1457, 1502, 1664, 1665) {
		for _, runs := range [][]api.Span{nil, {}, {{}}, {{Start: 9}}, {single(9)}, {{Start: 9, Len: 2}}, {single(9), single(11)}, {{Start: 9, Len: 8}}, {{Start: 9, Len: 9}}, {{Start: 9, Len: -1}}, {{Start: 9, Len: 4}, {Start: 20, Len: 4}}} {
			want := 0 <= size && size <= 1500 && mayBe(runs, takes(size))
			if got := Right(object(size, runs...)); got != want {
				t.Errorf("Size %d with %v: %v", size, runs, got)
			}
			m := changed(mark(), func(r *api.Record) { r.Size, r.Spans = size, runs })
			if got, want := Right(m), size == 0 && len(runs) == 0; got != want {
				t.Errorf("a mark of Size %d with %v: %v", size, runs, got)
			}
		}
	}
}

// P8.1: runs go from page 1 on, below page 512, whatever numbers they have.
func TestRightNumbers(t *testing.T) {
	starts := slices.Clone(ends)
	for start := 495; start < 515; start++ {
		starts = append(starts, start)
	}
	for _, size := range []int{1, 208, 209, 416, 417, 1456, 1457, 1500} {
		for _, start := range starts {
			for _, n := range append(ends, takes(size), takes(size)-1, math.MinInt+start, math.MaxInt-start, 512-start, -start, 1-start) {
				run := api.Span{Start: start, Len: n}
				for _, runs := range [][]api.Span{{run}, {single(1), run}, {run, single(511)}, {{Start: 1, Len: n}, {Start: start, Len: takes(size) - n}}, {{Start: start, Len: takes(size) - n}, {Start: start + n, Len: n}}} {
					if got, want := Right(object(size, runs...)), mayBe(runs, takes(size)); got != want {
						t.Errorf("%d bytes in %v: %v", size, runs, got)
					}
				}
			}
		}
	}
}

// P8.1: runs, as the chapter's words name them.
func TestRightRuns(t *testing.T) {
	for _, c := range []struct {
		what string
		size int
		runs []api.Span
		want bool
	}{
		{"pages 3 and 9", 300, []api.Span{single(3), single(9)}, true},
		{"one run", 300, []api.Span{{Start: 9, Len: 2}}, true},
		{"one page between", 300, []api.Span{single(9), single(11)}, true},
		{"the first page and the last one", 300, []api.Span{single(1), single(511)}, true},
		{"runs of several pages", 1500, []api.Span{{Start: 1, Len: 3}, single(5), {Start: 508, Len: 4}}, true},
		{"none", 300, nil, false},
		{"an empty list", 300, []api.Span{}, false},
		{"touching", 300, []api.Span{single(9), single(10)}, false},
		{"longer runs, touching", 1500, []api.Span{{Start: 9, Len: 4}, {Start: 13, Len: 4}}, false},
		{"the last two touching", 600, []api.Span{single(3), single(9), single(10)}, false},
		{"over one another", 600, []api.Span{{Start: 9, Len: 2}, single(10)}, false},
		{"one in the other", 1500, []api.Span{{Start: 9, Len: 7}, single(12)}, false},
		{"one twice", 300, []api.Span{single(9), single(9)}, false},
		{"falling", 300, []api.Span{single(9), single(3)}, false},
		{"falling, and touching", 300, []api.Span{single(10), single(9)}, false},
		{"falling in the end", 600, []api.Span{single(3), single(20), single(9)}, false},
		{"too many pages", 300, []api.Span{single(3), single(9), single(20)}, false},
		{"too few pages", 300, []api.Span{single(3)}, false},
		{"a longer run than bytes", 300, []api.Span{{Start: 9, Len: 3}}, false},
		{"a run of no page behind", 300, []api.Span{{Start: 9, Len: 2}, {Start: 20}}, false},
		{"a run of no page ahead", 300, []api.Span{{Start: 3}, {Start: 9, Len: 2}}, false},
		{"a run of no page between", 300, []api.Span{single(3), {Start: 6}, single(9)}, false},
		{"a zero run ahead", 300, []api.Span{{}, {Start: 9, Len: 2}}, false},
		{"fewer pages than none", 300, []api.Span{{Start: 9, Len: -2}}, false},
		{"fewer pages than none, made good behind", 300, []api.Span{{Start: 9, Len: -1}, {Start: 20, Len: 3}}, false},
		{"fewer pages than none, made good ahead", 300, []api.Span{{Start: 9, Len: 3}, {Start: 20, Len: -1}}, false},
		{"from page 0 on", 300, []api.Span{{Start: 0, Len: 2}}, false},
		{"page 0 alone", 300, []api.Span{single(0), single(9)}, false},
		{"from page -1 on", 300, []api.Span{{Start: -1, Len: 2}}, false},
		{"the last pages", 300, []api.Span{{Start: 510, Len: 2}}, true},
		{"to page 512", 300, []api.Span{{Start: 511, Len: 2}}, false},
		{"page 512", 300, []api.Span{single(9), single(512)}, false},
		{"beyond page 512", 300, []api.Span{{Start: 512, Len: 2}}, false},
		{"none of Size 0", 0, nil, true},
		{"an empty list of Size 0", 0, []api.Span{}, true},
		{"a run of Size 0", 0, []api.Span{single(9)}, false},
		{"a run of no page of Size 0", 0, []api.Span{{Start: 9}}, false},
		{"a zero run of Size 0", 0, []api.Span{{}}, false},
		{"runs of Size 0 that make nothing", 0, []api.Span{single(9), {Start: 20, Len: -1}}, false},
		{"the greatest Len and its other", 300, []api.Span{{Start: 1, Len: math.MaxInt}, {Start: 3, Len: math.MinInt + 3}}, false},
	} {
		if got := Right(object(c.size, c.runs...)); got != c.want {
			t.Errorf("%s: %v", c.what, got)
		}
	}
}

// P8.1: each two runs of up to three pages in a few places at either end, of each Size.
func TestRightTwoRuns(t *testing.T) {
	starts := []int{-1, 0, 1, 2, 3, 4, 5, 6, 507, 508, 509, 510, 511, 512}
	for _, size := range []int{0, 208, 416, 624, 832, 1040, 1248} {
		for _, one := range starts {
			for _, two := range starts {
				for lengths := range 25 {
					runs := []api.Span{{Start: one, Len: lengths/5 - 1}, {Start: two, Len: lengths%5 - 1}}
					if got, want := Right(object(size, runs...)), mayBe(runs, takes(size)); got != want {
						t.Errorf("%d bytes in %v: %v", size, runs, got)
					}
				}
			}
		}
	}
}

// P8.1: very many runs are none of a record.
func TestRightManyRuns(t *testing.T) {
	for _, n := range []int{9, 256, 1000, 65536, 65538} {
		var runs []api.Span
		for i := range n {
			runs = append(runs, single(1+2*i))
		}
		if Right(object(1500, runs...)) || Right(object(300, runs...)) || Right(object(0, runs...)) {
			t.Errorf("%d runs: right", n)
		}
	}
}

// wrongItems are what is done to a record of an object so that its item may not be, or has a Body.
func wrongItems() map[string]func(r *api.Record) {
	return map[string]func(r *api.Record){
		"no Key":              func(r *api.Record) { r.Item.Key = "" },
		"a Key with a 0":      func(r *api.Record) { r.Item.Key = "a\x00b" },
		"a Key of 25 bytes":   func(r *api.Record) { r.Item.Key = strings.Repeat("k", 25) },
		"Seq 0":               func(r *api.Record) { r.Item.Seq, r.Item.Version = 0, 0 },
		"Seq -1":              func(r *api.Record) { r.Item.Seq, r.Item.Version = -1, 0 },
		"Seq 2^31":            func(r *api.Record) { r.Item.Seq, r.Item.Version = 1<<31, 0 },
		"Seq 2^31, Version":   func(r *api.Record) { r.Item.Seq, r.Item.Version = 1<<31, 1<<31 },
		"Seq 2^32 + 4":        func(r *api.Record) { r.Item.Seq, r.Item.Version = 1<<32+4, 0 },
		"another's Version":   func(r *api.Record) { r.Item.Version = 3 },
		"Version -1":          func(r *api.Record) { r.Item.Version = -1 },
		"Meta of 41 bytes":    func(r *api.Record) { r.Item.Meta = strings.Repeat("m", 41) },
		"no ETag":             func(r *api.Record) { r.Item.ETag = "" },
		"an ETag of 15 bytes": func(r *api.Record) { r.Item.ETag = tag[1:] },
		"an ETag of 25 bytes": func(r *api.Record) { r.Item.ETag = strings.Repeat("e", 25) },
		"a mark with texts":   func(r *api.Record) { r.Item.Marker, r.Size, r.Spans = true, 0, nil },
		"a mark with an ETag": func(r *api.Record) { r.Item.Marker, r.Item.Meta, r.Size, r.Spans = true, "", 0, nil },
		"a mark with Meta":    func(r *api.Record) { r.Item.Marker, r.Item.ETag, r.Size, r.Spans = true, "", 0, nil },
		"a mark with bytes":   func(r *api.Record) { r.Item.Marker, r.Item.ETag, r.Item.Meta = true, "", "" },
		"a mark with a Size":  func(r *api.Record) { r.Item.Marker, r.Item.ETag, r.Item.Meta, r.Spans = true, "", "", nil },
		"no mark, no texts":   func(r *api.Record) { r.Item.ETag, r.Item.Meta, r.Size, r.Spans = "", "", 0, nil },
		"a Body":              func(r *api.Record) { r.Item.Body = "x" },
		"a Body of its Size":  func(r *api.Record) { r.Item.Body = strings.Repeat("x", 300) },
		"too long a Body":     func(r *api.Record) { r.Item.Body = strings.Repeat("x", 1501) },
		"a mark with a Body":  func(r *api.Record) { *r = mark(); r.Item.Body = "x" },
		"the zero record":     func(r *api.Record) { *r = api.Record{} },
	}
}

// P8.1: a record's item may be, and has no Body.
func TestRightItem(t *testing.T) {
	for what, change := range wrongItems() {
		if Right(changed(object(300, single(3), single(9)), change)) {
			t.Errorf("%s: right", what)
		}
	}
	if Right(changed(object(0), func(r *api.Record) { r.Item.Body = "x" })) {
		t.Error("a Body of Size 0: right")
	}
}

// P8.1: records' bytes, written out.
func TestPrintKnown(t *testing.T) {
	for _, c := range []struct {
		what string
		r    api.Record
		want string
	}{
		{"300 bytes in pages 3 and 9", object(300, single(3), single(9)), "OBJ2\x00\x03a/b\x00\x00\x00\x04\x00\x00\x00\x04\x00\x01\x2c\x00\x02\x00\x03\x00\x01\x00\x09\x00\x01\x00\x100123456789abcdef\x00\x04meta"},
		{"300 bytes in one run", whole(300, 9), "OBJ2\x00\x03a/b\x00\x00\x00\x04\x00\x00\x00\x04\x00\x01\x2c\x00\x01\x00\x09\x00\x02\x00\x100123456789abcdef\x00\x04meta"},
		{"no bytes", object(0), "OBJ2\x00\x03a/b\x00\x00\x00\x04\x00\x00\x00\x04\x00\x00\x00\x00\x00\x00\x100123456789abcdef\x00\x04meta"},
		{"a mark", mark(), "OBJ2\x00\x03a/b\x00\x00\x00\x04\x00\x00\x00\x00\x01\x00\x00\x00\x00\x00\x00\x00\x00"},
		{"the most bytes, in the last pages", changed(whole(1500, 504), func(r *api.Record) {
			r.Item = api.Item{Key: "k", Seq: 1<<31 - 1, Version: 0, ETag: tag + "-6"}
		}), "OBJ2\x00\x01k\x7f\xff\xff\xff\x00\x00\x00\x00\x00\x05\xdc\x00\x01\x01\xf8\x00\x08\x00\x120123456789abcdef-6\x00\x00"},
	} {
		if got := Print(c.r); got != sealed(c.want) {
			t.Errorf("%s: %q, want %q", c.what, got, sealed(c.want))
		}
	}
}

// P8.1: each field has its own place, and nothing else stands there.
func TestPrint(t *testing.T) {
	for _, r := range samples() {
		if got, want := Print(r), sealed(of(r).bytes()); got != want {
			t.Errorf("%+v: %q, want %q", r, got, want)
		}
	}
}

// P8.1: what is no record has bytes by the same words, numbers and texts cut as layer 3 cuts them.
func TestPrintRaw(t *testing.T) {
	long := strings.Repeat("x", 70000)
	for _, n := range ends {
		r := api.Record{Item: api.Item{Seq: n, Version: -n, Marker: true, Meta: "m", ETag: "e", Body: "b"}, Size: n, Spans: []api.Span{{Start: n, Len: -n}, {Start: 7, Len: 8}, {Start: -n, Len: n}}}
		if got, want := Print(r), sealed(of(r).bytes()); got != want {
			t.Errorf("%+v: %q, want %q", r, got, want)
		}
	}
	for what, change := range wrongItems() {
		r := changed(object(300, single(3), single(9)), change)
		if got, want := Print(r), sealed(of(r).bytes()); got != want {
			t.Errorf("%s: %q, want %q", what, got, want)
		}
	}
	for _, n := range []int{9, 65535, 65536, 65537} {
		r := object(300, make([]api.Span, n)...)
		if Print(r) != sealed(of(r).bytes()) {
			t.Errorf("%d runs: other bytes", n)
		}
		none(t, "many runs", Print(r))
	}
	r := changed(whole(300, 9), func(r *api.Record) { r.Item.Meta, r.Item.ETag, r.Item.Key = long, long, long })
	want := of(whole(300, 9))
	want.meta, want.tag, want.key = long[:65535], long[:65535], long[:65535]
	if got := Print(r); got != sealed(want.bytes()) {
		t.Errorf("texts of 70000 bytes: %d bytes, want %d", len(got), len(sealed(want.bytes())))
	}
}

// P8.1, P8.2: a record there and back.
func TestThereAndBack(t *testing.T) {
	for _, r := range samples() {
		got, is := Parse(Print(r))
		if !is || !same(got, r) {
			t.Errorf("%+v: %+v, %v", r, got, is)
		}
	}
}

// randomRecord is one with all fields as they come.
func randomRecord(random *rand.Rand) api.Record {
	text := func(least, most, lowest int) string {
		b := make([]byte, least+random.Intn(most-least+1))
		for i := range b {
			b[i] = byte(lowest + random.Intn(256-lowest))
		}
		return string(b)
	}
	x := api.Item{Key: text(1, 24, 1), Seq: 1 + random.Intn(math.MaxInt32)}
	x.Version = x.Seq * random.Intn(2)
	if random.Intn(4) == 0 {
		x.Marker = true
		return api.Record{Item: x}
	}
	x.Meta, x.ETag = text(0, 40, 0), text(16, 24, 0)
	r := api.Record{Item: x, Size: random.Intn(1501)}
	all := splits(takes(r.Size))
	lengths := all[random.Intn(len(all))]
	room := 512 - takes(r.Size) - max(len(lengths)-1, 0)
	start := 1 + random.Intn(room/2)
	for _, n := range lengths {
		r.Spans = append(r.Spans, api.Span{Start: start, Len: n})
		start += n + 1 + random.Intn(room/2/len(lengths))
	}
	return r
}

// P8.2: there and back, with all fields at once as they come; and none of them is of the old format by its bytes, nor the other way.
func TestThereAndBackRandom(t *testing.T) {
	random := rand.New(rand.NewSource(8))
	seen := map[string]api.Record{}
	for range 20000 {
		r := randomRecord(random)
		s := Print(r)
		got, is := Parse(s)
		if !is || !same(got, r) || !Right(r) {
			t.Fatalf("%+v: %+v, %v", r, got, is)
		}
		if other, is := seen[s]; is && !same(other, r) {
			t.Fatalf("%+v has the bytes of %+v", r, other)
		}
		seen[s] = r
		if other, is := old.Parse(s); is {
			t.Fatalf("%+v is one of the old format: %+v", r, other)
		}
		none(t, "bytes of the old format", old.Print(r))
	}
}

// P8.2: a record that may stand in both formats has bytes of its own in each, and each tells the other's.
func TestBothFormats(t *testing.T) {
	both := 0
	for _, r := range samples() {
		if _, is := old.Parse(Print(r)); is {
			t.Errorf("%+v: its bytes are of the old format, too", r)
		}
		if old.Right(r) {
			both++
			none(t, "bytes of the old format", old.Print(r))
			if _, is := old.Parse(old.Print(r)); !is {
				t.Errorf("%+v: no bytes of the old format", r)
			}
		}
	}
	if both < 1000 {
		t.Errorf("only %d records of both formats", both)
	}
}

// none checks that s is no record's bytes.
func none(t *testing.T, what, s string) {
	t.Helper()
	if r, is := Parse(s); is || !same(r, api.Record{}) {
		t.Errorf("%s: Parse(%q): %+v, %v", what, s, r, is)
	}
}

// few are records of each kind, for what is tried of each byte.
func few() []api.Record {
	return []api.Record{
		object(300, single(3), single(9)), whole(300, 9), object(0), mark(), whole(1500, 504), whole(1, 1),
		longest(scattered(1500, 497, 2)), longest(object(209, single(1), single(511))),
		{Item: api.Item{Key: "k", Seq: 1, ETag: tag}},
	}
}

// P8.1, P8.2: bytes cut off anywhere, and bytes behind the end or ahead of the beginning, sealed anew too.
func TestParseCut(t *testing.T) {
	none(t, "no bytes", "")
	none(t, "no bytes, sealed", sealed(""))
	for _, r := range few() {
		s := Print(r)
		inside := of(r).bytes()
		for n := range len(s) {
			none(t, "cut off", s[:n])
			none(t, "cut off ahead", s[n+1:])
			none(t, "one byte less", s[:n]+s[n+1:])
		}
		for n := range len(inside) {
			none(t, "cut off, and sealed", sealed(inside[:n]))
			none(t, "cut off ahead, and sealed", sealed(inside[n+1:]))
		}
		for _, more := range []string{"\x00", "\x01", "x", "\x00\x00", "\x00\x00\x00\x00", s} {
			none(t, "bytes behind", s+more)
			none(t, "bytes behind, and sealed", sealed(inside+more))
			none(t, "bytes ahead", more+s)
			none(t, "bytes ahead, and sealed", sealed(more+inside))
		}
		none(t, "sealed twice", sealed(s))
		none(t, "without its seal", inside)
	}
}

// P8.2: each one other byte, anywhere, and up to four side by side.
func TestParseSpoilt(t *testing.T) {
	random := rand.New(rand.NewSource(88))
	for _, r := range few() {
		s := Print(r)
		for at := range len(s) {
			for other := 1; other < 256; other++ {
				b := []byte(s)
				b[at] ^= byte(other)
				none(t, "one other byte", string(b))
			}
			for wide := 2; wide <= 4 && at+wide <= len(s); wide++ {
				for range 50 {
					b := []byte(s)
					for i := range wide {
						b[at+i] = byte(random.Intn(256))
					}
					if string(b) != s {
						none(t, "other bytes side by side", string(b))
					}
				}
			}
		}
	}
}

// P8.2: bytes that a right seal stands behind are a record's only if they are its Print.
func TestParseSealed(t *testing.T) {
	random := rand.New(rand.NewSource(888))
	found := 0
	for _, r := range few() {
		inside := of(r).bytes()
		for at := range len(inside) {
			for other := range 256 {
				b := []byte(inside)
				b[at] = byte(other)
				if at+1 < len(b) && random.Intn(4) == 0 {
					b[at+1] = byte(random.Intn(256))
				}
				s := sealed(string(b))
				got, is := Parse(s)
				if is && (!Right(got) || Print(got) != s) || !is && !same(got, api.Record{}) {
					t.Fatalf("Parse(%q): %+v, %v", s, got, is)
				}
				if is {
					found++
				}
			}
		}
	}
	if found < 1000 {
		t.Errorf("only %d of the bytes were records", found)
	}
}

type rawCase struct {
	what   string
	change func(w *raw)
}

func areNone(t *testing.T, r api.Record, cases []rawCase) {
	t.Helper()
	for _, c := range cases {
		w := of(r)
		c.change(&w)
		none(t, c.what, sealed(w.bytes()))
	}
}

// P8.1, P8.2: bytes of another kind, with a right seal.
func TestParseKind(t *testing.T) {
	for _, r := range few() {
		for _, kind := range []string{"OBJ1", "OBJ0", "OBJ3", "OBJ", "obj2", "OBJ22", "", "\x00\x00\x00\x00", "2JBO"} {
			areNone(t, r, []rawCase{{kind, func(w *raw) { w.kind = kind }}})
		}
		none(t, "one of the old format", old.Print(r))
		previous := old.Print(r)
		none(t, "one of the old format by the fresh one's name", sealed("OBJ2"+previous[4:len(previous)-4]))
	}
	none(t, "a text", sealed("a text of another kind"))
	none(t, "the kind alone", sealed("OBJ2"))
	none(t, "noughts", strings.Repeat("\x00", 208))
	none(t, "noughts, sealed", sealed(strings.Repeat("\x00", 208)))
	none(t, "noughts behind the kind", sealed("OBJ2"+strings.Repeat("\x00", 208)))
	none(t, "ones", sealed("OBJ2"+strings.Repeat("\xff", 208)))
}

// P8.1: texts that may not be, or that go beyond the end, with a right seal.
func TestParseTexts(t *testing.T) {
	areNone(t, object(300, single(3), single(9)), []rawCase{
		{"Meta of 41 bytes", func(w *raw) { w.meta = strings.Repeat("m", 41) }},
		{"Meta of 65535 bytes", func(w *raw) { w.meta = strings.Repeat("m", 65535) }},
		{"no ETag", func(w *raw) { w.tag = "" }},
		{"an ETag of 15 bytes", func(w *raw) { w.tag = tag[1:] }},
		{"an ETag of 25 bytes", func(w *raw) { w.tag = strings.Repeat("e", 25) }},
		{"no Key", func(w *raw) { w.key = "" }},
		{"a Key of 25 bytes", func(w *raw) { w.key = strings.Repeat("k", 25) }},
		{"a Key with a 0", func(w *raw) { w.key = "a\x00" }},
		{"a Key that is a 0", func(w *raw) { w.key = "\x00" }},
		{"Meta that is told as longer", func(w *raw) { w.moreOfMeta = 1 }},
		{"Meta that is told as shorter", func(w *raw) { w.moreOfMeta = -1 }},
		{"Meta that is told as far longer", func(w *raw) { w.moreOfMeta = 65000 }},
		{"an ETag that is told as longer", func(w *raw) { w.moreOfTag = 1 }},
		{"an ETag that is told as shorter", func(w *raw) { w.moreOfTag = -1 }},
		{"a Key that is told as longer", func(w *raw) { w.moreOfKey = 1 }},
		{"a Key that is told as shorter", func(w *raw) { w.moreOfKey = -1 }},
		{"ETag and Meta in one another's place", func(w *raw) { w.meta, w.tag = w.tag, w.meta }},
	})
	areNone(t, mark(), []rawCase{
		{"a mark with Meta", func(w *raw) { w.meta = "m" }},
		{"a mark with an ETag", func(w *raw) { w.tag = tag }},
		{"a mark with a short ETag", func(w *raw) { w.tag = "e" }},
		{"a mark without a Key", func(w *raw) { w.key = "" }},
		{"no mark, and no ETag", func(w *raw) { w.marker = "\x00" }},
		{"a mark with a Size", func(w *raw) { w.size = 1 }},
		{"a mark with a run", func(w *raw) { w.runs = [][2]uint16{{9, 1}} }},
		{"a mark with a Size and a run", func(w *raw) { w.size, w.runs = 1, [][2]uint16{{9, 1}} }},
	})
}

// P8.1: numbers that may not be, with a right seal.
func TestParseNumbers(t *testing.T) {
	areNone(t, object(300, single(3), single(9)), []rawCase{
		{"Seq 0", func(w *raw) { w.seq, w.version = 0, 0 }},
		{"Seq 2^31", func(w *raw) { w.seq, w.version = 1<<31, 0 }},
		{"Seq and Version 2^31", func(w *raw) { w.seq, w.version = 1<<31, 1<<31 }},
		{"Seq and Version 2^32 - 1", func(w *raw) { w.seq, w.version = 1<<32-1, 1<<32-1 }},
		{"a Version below Seq", func(w *raw) { w.version = 3 }},
		{"a Version above Seq", func(w *raw) { w.version = 5 }},
		{"a Version of 2^32 - 1", func(w *raw) { w.version = 1<<32 - 1 }},
		{"the lowest byte first", func(w *raw) { w.numbersLowFirst = true }},
		{"a Marker's byte of 1, of an object", func(w *raw) { w.marker = "\x01" }},
		{"no Marker's byte", func(w *raw) { w.marker = "" }},
		{"two Marker's bytes", func(w *raw) { w.marker = "\x00\x00" }},
		{"a byte behind the end", func(w *raw) { w.behind = "\x00" }},
	})
	for _, r := range few() {
		for b := 2; b < 256; b++ {
			areNone(t, r, []rawCase{{"a Marker's byte that is neither", func(w *raw) { w.marker = string([]byte{byte(b)}) }}})
		}
	}
}

// P8.1: runs that may not be, with a right seal.
func TestParseRuns(t *testing.T) {
	areNone(t, object(300, single(3), single(9)), []rawCase{
		{"one run more is told", func(w *raw) { w.moreRuns = 1 }},
		{"one run less is told", func(w *raw) { w.moreRuns = -1 }},
		{"65535 runs are told", func(w *raw) { w.moreRuns = 65533 }},
		{"no run", func(w *raw) { w.runs = nil }},
		{"one page", func(w *raw) { w.runs = w.runs[:1] }},
		{"three pages", func(w *raw) { w.runs = append(w.runs, [2]uint16{20, 1}) }},
		{"touching", func(w *raw) { w.runs[1][0] = 4 }},
		{"the same page twice", func(w *raw) { w.runs[1][0] = 3 }},
		{"falling", func(w *raw) { w.runs[1][0] = 1 }},
		{"over one another", func(w *raw) { w.size, w.runs = 500, [][2]uint16{{3, 2}, {4, 1}} }},
		{"a run of no page more", func(w *raw) { w.runs = append(w.runs, [2]uint16{20, 0}) }},
		{"a run of no page first", func(w *raw) { w.runs = [][2]uint16{{1, 0}, {3, 2}} }},
		{"a run of 65535 pages, that might be -1", func(w *raw) { w.runs = [][2]uint16{{3, 3}, {9, 65535}} }},
		{"from page 0 on", func(w *raw) { w.runs[0][0] = 0 }},
		{"page 512", func(w *raw) { w.runs[1][0] = 512 }},
		{"page 65535", func(w *raw) { w.runs[1][0] = 65535 }},
		{"to page 512", func(w *raw) { w.runs = [][2]uint16{{511, 2}} }},
		{"Size 0 with runs", func(w *raw) { w.size = 0 }},
		{"Size 208 with runs", func(w *raw) { w.size = 208 }},
		{"Size 417 with runs", func(w *raw) { w.size = 417 }},
	})
	nine := scattered(1500, 1, 2)
	nine.Spans = append(nine.Spans, single(100))
	none(t, "nine runs of a page", sealed(of(nine).bytes()))
	nine.Size = 1501
	none(t, "1501 bytes", sealed(of(nine).bytes()))
	nine.Size = 1665
	none(t, "1665 bytes in nine pages", sealed(of(nine).bytes()))
	none(t, "1501 bytes in eight pages", sealed(of(changed(whole(1500, 9), func(r *api.Record) { r.Size = 1501 })).bytes()))
}

// P8.1: each number that two bytes can tell, of Size, Start, Len and how many runs there are, with a right seal.
func TestParseEachNumber(t *testing.T) {
	check := func(r api.Record) {
		t.Helper()
		s := sealed(of(r).bytes())
		want := r.Size <= 1500 && mayBe(r.Spans, takes(r.Size))
		if !want {
			none(t, "a number", s)
		} else if got, is := Parse(s); !is || !same(got, r) {
			t.Errorf("%+v: %+v, %v", r, got, is)
		}
	}
	for n := range 65536 {
		check(object(300, api.Span{Start: n, Len: 2}))
		check(object(300, single(n), single(9)))
		check(object(300, single(9), single(n)))
		check(object(300, api.Span{Start: 9, Len: n}))
		check(object(300, single(3), api.Span{Start: 9, Len: n}))
		check(object(n, single(3), single(9)))
		check(object(n))
		if n != 2 {
			areNone(t, object(300, single(3), single(9)), []rawCase{{"how many runs", func(w *raw) { w.moreRuns = n - 2 }}})
		}
	}
}

// P8.1: what isn't right isn't parsed, unless its bytes are those of a record that is.
func TestParseWrongRecords(t *testing.T) {
	for what, change := range wrongItems() {
		s := Print(changed(object(300, single(3), single(9)), change))
		got, is := Parse(s)
		if is && (!Right(got) || Print(got) != s || got.Item.Body != "") || !is && !same(got, api.Record{}) {
			t.Errorf("%s: %+v, %v", what, got, is)
		}
	}
}

// Rule 3: neither the runs that are handed in nor their spare room are changed, and an answer's runs are its own.
func TestNothingHandedInIsChanged(t *testing.T) {
	want := object(300, single(3), single(9))
	room := []api.Span{single(3), single(9), {Start: 70, Len: 71}, {Start: 80, Len: 81}}
	before := slices.Clone(room)
	r := want
	r.Spans = room[:2]
	right, s := Right(r), Print(r)
	if !slices.Equal(room, before) || !right {
		t.Errorf("%v, %v", room, right)
	}
	one, _ := Parse(s)
	two, _ := Parse(s)
	one.Spans[0] = single(1)
	if !same(two, want) || !slices.Equal(room, before) {
		t.Errorf("%+v, %v", two, room)
	}
	room[0].Start = 33
	if again, is := Parse(s); !is || !same(again, want) {
		t.Errorf("%+v, %v", again, is)
	}
}

// Rule 6: any number of goroutines may call at once.
func TestAtOnce(t *testing.T) {
	r := object(300, single(3), single(9))
	s := Print(r)
	var all sync.WaitGroup
	for range 8 {
		all.Add(1)
		go func() {
			defer all.Done()
			for range 200 {
				got, is := Parse(s)
				if !is || !same(got, r) || !Right(r) || Print(r) != s {
					t.Errorf("%+v, %v", got, is)
				}
			}
		}()
	}
	all.Wait()
}
