package vault

import (
	"encoding/binary"
	"fmt"
	"hash/crc32"
	"maps"
	"math"
	"math/rand"
	"slices"
	"strings"
	"testing"

	"archivist/api"
	"archivist/disk"
)

const all = math.MaxUint64

// wrong are numbers of pages that no vault has.
var wrong = []int{math.MinInt, -1 << 32, -1 << 31, -512, -16, -1, 512, 513, 1 << 16, 1 << 31, 1 << 32, math.MaxInt - 20, math.MaxInt}

// blank is that many noughts.
func blank(n int) string { return string(make([]byte, n)) }

// page is s, and noughts up to a page's bytes.
func page(s string) string { return s + blank(208-len(s)) }

// mixed is that many bytes of any kind, the same ones each time.
func mixed(n int, seed int64) string {
	b := make([]byte, n)
	rand.New(rand.NewSource(seed)).Read(b)
	return string(b)
}

// sum is the library's sum of s.
func sum(s string) string {
	n := crc32.Checksum([]byte(s), crc32.MakeTable(crc32.Castagnoli))
	return string(binary.LittleEndian.AppendUint32(nil, n))
}

// sealed is a sector that begins with s.
func sealed(s string) string {
	s += blank(252 - len(s))
	return s + sum(s)
}

// two is a number in two bytes.
func two(n int) string { return string(binary.BigEndian.AppendUint16(nil, uint16(n))) }

// four is a number in four bytes.
func four(n int) string { return string(binary.BigEndian.AppendUint32(nil, uint32(n))) }

// pageEntry, lastEntry, home and shapeSector are sectors, by the words of chapters 10 and 11.
func pageEntry(seq, index, no int, data string) string {
	return sealed("JPAG" + four(seq) + two(index) + two(no) + data)
}

func lastEntry(seq, index, no int) string {
	return sealed("JEND" + four(seq) + two(index) + two(no))
}

func home(no int, data string) string { return sealed("LEAF" + two(no) + data) }

func shapeSector(pages, journal int) string {
	return sealed("ARCHIVE1" + two(pages) + two(journal))
}

// sameDisk holds disks against each other; a list of nothing may be nil or empty.
func sameDisk(a, b api.Disk) bool {
	return slices.Equal(a.Sure, b.Sure) && slices.Equal(a.Wet, b.Wet) && a.Dead == b.Dead && a.Left == b.Left
}

func same(a, b api.Vault) bool {
	return sameDisk(a.Disk, b.Disk) && a.Shape == b.Shape && a.Seq == b.Seq && slices.Equal(a.Dirty, b.Dirty)
}

func formatted(t *testing.T, pages, journal int) api.Vault {
	t.Helper()
	v, err := Format(pages, journal)
	if err != api.OK {
		t.Fatalf("Format(%d, %d): %d", pages, journal, err)
	}
	return v
}

func written(t *testing.T, v api.Vault, no int, data string) api.Vault {
	t.Helper()
	v, err := Write(v, no, data)
	if err != api.OK {
		t.Fatalf("Write(%d): %d", no, err)
	}
	return v
}

func committed(t *testing.T, v api.Vault) api.Vault {
	t.Helper()
	v, err := Commit(v)
	if err != api.OK {
		t.Fatalf("Commit: %d", err)
	}
	return v
}

// opened opens a disk, and holds what doesn't hang on its sectors against the words.
func opened(t *testing.T, d api.Disk) api.Vault {
	t.Helper()
	v, then, err := Open(d)
	if err != api.OK {
		t.Fatalf("Open: %d", err)
	}
	if len(v.Dirty) != 0 || !sameDisk(v.Disk, then) {
		t.Fatalf("Open: %d pages Dirty, or two disks", len(v.Dirty))
	}
	return v
}

// refused checks that a disk isn't opened, and is as it was.
func refused(t *testing.T, what string, d api.Disk, want api.Errno) {
	t.Helper()
	v, then, err := Open(d)
	if err != want || !same(v, api.Vault{}) || !sameDisk(then, d) {
		t.Errorf("%s: Open: %d, want %d, no vault, and the disk as it was", what, err, want)
	}
}

// bytes is all pages of a vault.
func bytes(t *testing.T, v api.Vault) []string {
	t.Helper()
	var list []string
	for no := range v.Shape.Pages {
		s, err := Read(v, no)
		if err != api.OK || len(s) != 208 {
			t.Fatalf("Read(%d): %d bytes, %d", no, len(s), err)
		}
		list = append(list, s)
	}
	return list
}

func readIs(t *testing.T, v api.Vault, no int, want string) {
	t.Helper()
	if got, err := Read(v, no); err != api.OK || got != page(want) {
		t.Errorf("Read(%d): %q, %d; want %q", no, strings.TrimRight(got, "\x00"), err, want)
	}
}

// laid is a disk with other sectors, surely.
func laid(d api.Disk, sectors map[int]string) api.Disk {
	d.Sure = slices.Clone(d.Sure)
	for at, s := range sectors {
		d.Sure[at] = s
	}
	return d
}

// with16 is a disk of 16 pages, and 8 sectors of the journal, that begins with these.
func with16(t *testing.T, journal ...string) api.Disk {
	t.Helper()
	d := formatted(t, 16, 8).Disk
	d.Sure = slices.Clone(d.Sure)
	copy(d.Sure[1:9], journal)
	return d
}

// P12.1: each shape that may be, and those about them that may not.
func TestFormat(t *testing.T) {
	for _, c := range []struct{ pages, journal int }{{16, 8}, {16, 256}, {512, 8}, {512, 256}, {17, 9}, {300, 77}} {
		v, err := Format(c.pages, c.journal)
		if err != api.OK || v.Seq != 1 || len(v.Dirty) != 0 || v.Shape != (api.Shape{Pages: c.pages, Journal: c.journal}) {
			t.Fatalf("%+v: %d, Seq %d, %d pages Dirty, %+v", c, err, v.Seq, len(v.Dirty), v.Shape)
		}
		want := slices.Repeat([]string{blank(256)}, 1+c.pages+c.journal)
		want[0] = shapeSector(c.pages, c.journal)
		if !sameDisk(v.Disk, api.Disk{Sure: want, Left: -1}) {
			t.Errorf("%+v: the disk isn't as the chapter says", c)
		}
		for _, s := range bytes(t, v) {
			if s != blank(208) {
				t.Fatalf("%+v: a page of a new vault isn't noughts", c)
			}
		}
		if u := opened(t, v.Disk); !same(u, v) {
			t.Errorf("%+v: opened, it is another one", c)
		}
	}
}

func TestFormatOfWrongShapes(t *testing.T) {
	sizes := []int{math.MinInt, -1 << 32, -512, -16, -8, -1, 0, 1, 7, 8, 15, 16, 255, 256, 257, 512, 513, 65536 + 16, 1<<32 + 16, math.MaxInt}
	for _, pages := range sizes {
		for _, journal := range sizes {
			v, err := Format(pages, journal)
			if pages >= 16 && pages <= 512 && journal >= 8 && journal <= 256 {
				if err != api.OK {
					t.Errorf("Format(%d, %d): %d", pages, journal, err)
				}
			} else if err != api.ErrArg || !same(v, api.Vault{}) {
				t.Errorf("Format(%d, %d): %d, want ErrArg and no vault", pages, journal, err)
			}
		}
	}
}

// P12.1, P12.2: the chapter's example.
func TestExample(t *testing.T) {
	v := committed(t, written(t, written(t, formatted(t, 16, 8), 3, "ab"), 0, "first"))
	v = written(t, written(t, v, 3, "xy"), 7, "new")
	readIs(t, v, 3, "xy")
	readIs(t, v, 7, "new")
	readIs(t, v, 0, "first")
	readIs(t, v, 4, "")
	u := opened(t, v.Disk)
	readIs(t, u, 3, "ab")
	readIs(t, u, 7, "")
	readIs(t, u, 0, "first")
	if u.Seq != 2 || v.Seq != 2 {
		t.Errorf("Seq %d, opened %d", v.Seq, u.Seq)
	}
}

// P12.1: pages that there aren't, ahead of all else; then a disk that is Dead; each leaves the vault as it was.
func TestWrongArguments(t *testing.T) {
	for _, shape := range []api.Shape{{Pages: 16, Journal: 8}, {Pages: 512, Journal: 256}} {
		living := written(t, committed(t, written(t, formatted(t, shape.Pages, shape.Journal), 2, "two")), 1, "one")
		dead := living
		dead.Disk.Dead = true
		for _, no := range append(slices.Clone(wrong), shape.Pages, shape.Pages+1) {
			for _, v := range []api.Vault{living, dead} {
				if s, err := Read(v, no); s != "" || err != api.ErrArg {
					t.Errorf("Read(%d): %q, %d, want ErrArg", no, s, err)
				}
				if got, err := Write(v, no, "x"); err != api.ErrArg || !same(got, v) {
					t.Errorf("Write(%d): %d, want ErrArg and the vault as it was", no, err)
				}
			}
		}
		for _, data := range []string{page("x") + "y", blank(209), mixed(256, 1), blank(1000)} {
			for _, v := range []api.Vault{living, dead} {
				if got, err := Write(v, 2, data); err != api.ErrArg || !same(got, v) {
					t.Errorf("Write of %d bytes: %d, want ErrArg and the vault as it was", len(data), err)
				}
			}
		}
		for _, no := range []int{0, 1, 2, shape.Pages - 1} {
			if s, err := Read(dead, no); s != "" || err != api.ErrDown {
				t.Errorf("Read(%d) of a Dead one: %q, %d", no, s, err)
			}
			if got, err := Write(dead, no, "x"); err != api.ErrDown || !same(got, dead) {
				t.Errorf("Write(%d) of a Dead one: %d", no, err)
			}
		}
	}
	var none api.Vault
	if s, err := Read(none, 0); s != "" || err != api.ErrArg {
		t.Errorf("Read of no vault: %q, %d", s, err)
	}
	if v, err := Write(none, 0, ""); err != api.ErrArg || !same(v, none) {
		t.Errorf("Write of no vault: %d", err)
	}
}

// P12.1: the first page and the last one, data up to a page, and noughts behind it.
func TestWriteAndRead(t *testing.T) {
	v := formatted(t, 16, 8)
	for _, no := range []int{0, 1, 9, 15} {
		for _, n := range []int{0, 1, 2, 100, 207, 208} {
			for _, data := range []string{mixed(n, int64(n)), blank(n), strings.Repeat("\xff", n)} {
				got := written(t, written(t, v, no, strings.Repeat("o", 208)), no, data)
				if !slices.Equal(got.Dirty, []api.Leaf{{No: no, Data: page(data)}}) {
					t.Fatalf("page %d, %d bytes: Dirty %v", no, n, got.Dirty)
				}
				readIs(t, got, no, data)
				got = committed(t, got)
				readIs(t, got, no, data)
				readIs(t, opened(t, got.Disk), no, data)
			}
		}
	}
}

// P12.1: Dirty stands by rising numbers; a page written twice is there once, as it was written last; the disk knows nothing of it.
func TestDirty(t *testing.T) {
	v := formatted(t, 16, 8)
	base := v
	for i, no := range []int{5, 0, 15, 5, 3, 4, 15, 0, 6, 1, 5} {
		v = written(t, v, no, fmt.Sprint("write ", i))
	}
	want := []api.Leaf{
		{No: 0, Data: page("write 7")}, {No: 1, Data: page("write 9")}, {No: 3, Data: page("write 4")}, {No: 4, Data: page("write 5")},
		{No: 5, Data: page("write 10")}, {No: 6, Data: page("write 8")}, {No: 15, Data: page("write 6")},
	}
	if !slices.Equal(v.Dirty, want) {
		t.Errorf("Dirty %v", v.Dirty)
	}
	if !sameDisk(v.Disk, base.Disk) || v.Seq != 1 || v.Shape != base.Shape {
		t.Error("a Write has changed more than Dirty")
	}
	for no := range 16 {
		at := slices.IndexFunc(want, func(p api.Leaf) bool { return p.No == no })
		if at < 0 {
			readIs(t, v, no, "")
		} else {
			readIs(t, v, no, want[at].Data)
		}
	}
}

// P12.1: all pages may be Dirty at once, in whatever order they come.
func TestDirtyOfAllPages(t *testing.T) {
	v := formatted(t, 512, 256)
	random := rand.New(rand.NewSource(2))
	for round := range 2 {
		for _, no := range random.Perm(512) {
			v = written(t, v, no, fmt.Sprint(round, no))
		}
		for no, p := range v.Dirty {
			if p != (api.Leaf{No: no, Data: page(fmt.Sprint(round, no))}) {
				t.Fatalf("round %d, place %d: page %d, %q", round, no, p.No, p.Data)
			}
		}
		if len(v.Dirty) != 512 {
			t.Fatalf("%d pages are Dirty", len(v.Dirty))
		}
	}
}

// P12.1: Read and Write are no deeds: they do as well on a disk that does none any more, but has power.
func TestNoDeeds(t *testing.T) {
	v := committed(t, written(t, formatted(t, 16, 8), 3, "ab"))
	v.Disk = disk.Arm(v.Disk, 0)
	for i := range 20 {
		v = written(t, v, i%3, fmt.Sprint(i))
		readIs(t, v, 3, "ab")
		readIs(t, v, i%3, fmt.Sprint(i))
	}
	if v.Disk.Dead || v.Disk.Left != 0 {
		t.Errorf("Dead %v, Left %d", v.Disk.Dead, v.Disk.Left)
	}
	if _, err := Commit(v); err != api.ErrDown {
		t.Errorf("Commit: %d", err)
	}
}

// P12.1: a page's sector that is none; what is Dirty is read all the same.
func TestReadOfSpoiltSectors(t *testing.T) {
	v := committed(t, written(t, formatted(t, 16, 8), 3, "ab"))
	good := home(3, page("ab"))
	if v.Disk.Sure[9+3] != good {
		t.Fatal("page 3's sector isn't its")
	}
	bad := []string{home(4, page("ab")), pageEntry(1, 0, 3, page("ab")), lastEntry(1, 0, 3), shapeSector(16, 8), mixed(256, 1), strings.Repeat("\xff", 256), sealed(""), "LEAF" + blank(252), blank(255) + "\x01", blank(255), blank(257), "", good[:255], good + "\x00"}
	for at := range 256 {
		for _, with := range []byte{1, 0x80, 0xff} {
			b := []byte(good)
			b[at] ^= with
			bad = append(bad, string(b))
		}
	}
	for _, s := range bad {
		w := v
		w.Disk = laid(v.Disk, map[int]string{9 + 3: s})
		for _, u := range []api.Vault{w, opened(t, laid(w.Disk, map[int]string{1: ""}))} {
			if got, err := Read(u, 3); got != "" || err != api.ErrForm {
				t.Fatalf("%q: %q, %d, want ErrForm", s, got, err)
			}
			readIs(t, u, 2, "")
			readIs(t, u, 4, "")
			readIs(t, written(t, u, 3, "new"), 3, "new")
			readIs(t, committed(t, written(t, u, 3, "new")), 3, "new")
		}
	}
	w := v
	w.Disk = laid(v.Disk, map[int]string{9 + 3: blank(256), 9 + 4: home(4, page("four"))})
	readIs(t, w, 3, "")
	readIs(t, w, 4, "four")
}

// P12.1: the disk's sectors behind a commit, byte by byte; what the journal has further behind stays.
func TestCommitSectors(t *testing.T) {
	v := formatted(t, 16, 8)
	want := slices.Clone(v.Disk.Sure)
	steps := [][]api.Leaf{
		{{No: 0, Data: page("")}, {No: 1, Data: page("one")}, {No: 7, Data: mixed(208, 7)}, {No: 8, Data: page("JEND")}, {No: 15, Data: strings.Repeat("\xff", 208)}},
		{{No: 7, Data: page("again")}},
		{{No: 1, Data: page("one")}, {No: 2, Data: mixed(208, 2)}},
	}
	for i, pages := range steps {
		for _, p := range slices.Backward(pages) {
			v = written(t, v, p.No, p.Data)
		}
		v = committed(t, v)
		for j, p := range pages {
			want[1+j] = pageEntry(i+1, j, p.No, p.Data)
			want[9+p.No] = home(p.No, p.Data)
		}
		want[1+len(pages)] = lastEntry(i+1, len(pages), len(pages))
		if !sameDisk(v.Disk, api.Disk{Sure: want, Left: -1}) {
			t.Fatalf("transaction %d: the disk isn't as the chapter says", i+1)
		}
		if v.Seq != i+2 || len(v.Dirty) != 0 || v.Shape != (api.Shape{Pages: 16, Journal: 8}) {
			t.Errorf("transaction %d: Seq %d, %d pages Dirty", i+1, v.Seq, len(v.Dirty))
		}
	}
}

// P12.1: a commit of nothing is no transaction, and no deed.
func TestCommitOfNothing(t *testing.T) {
	v := committed(t, written(t, formatted(t, 16, 8), 3, "ab"))
	for _, left := range []int{-1, 0, 1} {
		v.Disk = disk.Arm(v.Disk, left)
		if got := committed(t, v); !same(got, v) {
			t.Errorf("Left %d: another vault", left)
		}
	}
	v.Disk.Dead = true
	if got, err := Commit(v); err != api.ErrDown || !same(got, v) {
		t.Errorf("of a Dead one: %d", err)
	}
	if got, err := Commit(api.Vault{}); err != api.OK || !same(got, api.Vault{}) {
		t.Errorf("of no vault: %d", err)
	}
}

// fill writes the first so many pages.
func fill(t *testing.T, v api.Vault, n int, text string) api.Vault {
	t.Helper()
	for no := range n {
		v = written(t, v, no, fmt.Sprint(text, no))
	}
	return v
}

// P12.1, P12.3: as many pages as the journal has sectors, less one; of one more nothing is done, and nothing is Dirty any more.
func TestRoom(t *testing.T) {
	for _, shape := range []api.Shape{{Pages: 16, Journal: 8}, {Pages: 16, Journal: 9}, {Pages: 16, Journal: 15}, {Pages: 16, Journal: 16}, {Pages: 16, Journal: 17}, {Pages: 512, Journal: 100}, {Pages: 512, Journal: 256}} {
		base := committed(t, written(t, formatted(t, shape.Pages, shape.Journal), 3, "ab"))
		for n := range min(shape.Pages, shape.Journal+3) + 1 {
			if n > 12 && n < shape.Journal-3 {
				continue
			}
			v := fill(t, base, n, "w")
			got, err := Commit(v)
			if n > shape.Journal-1 {
				v.Dirty = nil
				if err != api.ErrLog || !same(got, v) || !sameDisk(got.Disk, base.Disk) {
					t.Errorf("%+v, %d pages: %d, want ErrLog and nothing done", shape, n, err)
				}
				readIs(t, got, 3, "ab")
				readIs(t, got, 4, "")
				continue
			}
			if err != api.OK || len(got.Dirty) != 0 || got.Seq != 2+min(n, 1) {
				t.Errorf("%+v, %d pages: %d, Seq %d", shape, n, err, got.Seq)
			}
			if !slices.Equal(bytes(t, got), bytes(t, v)) || !slices.Equal(bytes(t, opened(t, got.Disk)), bytes(t, v)) {
				t.Errorf("%+v, %d pages: other pages", shape, n)
			}
		}
	}
}

// P12.1: ErrLog comes ahead of the first deed, ErrDown ahead of ErrLog; behind ErrLog the vault goes on.
func TestErrLog(t *testing.T) {
	v := fill(t, formatted(t, 16, 8), 8, "w")
	armed, dead := v, v
	armed.Disk = disk.Arm(v.Disk, 0)
	got, err := Commit(armed)
	if err != api.ErrLog || got.Disk.Dead || len(got.Dirty) != 0 {
		t.Errorf("armed by 0: %d, Dead %v", err, got.Disk.Dead)
	}
	dead.Disk.Dead = true
	if got, err = Commit(dead); err != api.ErrDown || !same(got, dead) {
		t.Errorf("a Dead one: %d, %d pages Dirty", err, len(got.Dirty))
	}
	v, err = Commit(v)
	v = committed(t, fill(t, v, 7, "then"))
	if err != api.ErrLog || v.Seq != 2 {
		t.Errorf("%d, Seq %d", err, v.Seq)
	}
	readIs(t, v, 6, "then6")
	readIs(t, v, 7, "")
}

// deathOf says how a disk is to stand behind n deeds of a list: "" is a flush, else the sector that is written.
func deathOf(d api.Disk, deeds []api.Wet, n int) api.Disk {
	sure := slices.Clone(d.Sure)
	wet := map[int]string{}
	for _, w := range deeds[:min(n, len(deeds))] {
		if w.Data != "" {
			wet[w.At] = w.Data
			continue
		}
		for at, s := range wet {
			sure[at] = s
		}
		clear(wet)
	}
	d = api.Disk{Sure: sure, Dead: n < len(deeds), Left: max(0, n-len(deeds))}
	for _, at := range slices.Sorted(maps.Keys(wet)) {
		d.Wet = append(d.Wet, api.Wet{At: at, Data: wet[at]})
	}
	return d
}

// deedsOf is what a commit of 16 pages' vaults, of 8 sectors, is to do.
func deedsOf(v api.Vault) []api.Wet {
	var deeds []api.Wet
	for i, p := range v.Dirty {
		deeds = append(deeds, api.Wet{At: 1 + i, Data: pageEntry(v.Seq, i, p.No, p.Data)})
	}
	n := len(v.Dirty)
	deeds = append(deeds, api.Wet{At: 1 + n, Data: lastEntry(v.Seq, n, n)}, api.Wet{})
	return append(deeds, placesOf(v.Dirty)...)
}

// placesOf is what is to be done to bring pages to their places.
func placesOf(pages []api.Leaf) []api.Wet {
	var deeds []api.Wet
	for _, p := range pages {
		deeds = append(deeds, api.Wet{At: 9 + p.No, Data: home(p.No, p.Data)})
	}
	return append(deeds, api.Wet{})
}

// P12.1: the deeds of a commit, one by one: how the disk stands, wherever the power goes, and all else is as it was.
func TestDeedsOfCommit(t *testing.T) {
	base := committed(t, written(t, written(t, formatted(t, 16, 8), 3, "ab"), 9, "cd"))
	for _, pages := range [][]int{{3}, {0}, {15}, {0, 15}, {9, 3, 1}, {15, 14, 13, 12, 11, 10, 9}} {
		v := base
		for _, no := range pages {
			v = written(t, v, no, fmt.Sprint("new ", no))
		}
		deeds := deedsOf(v)
		for n := range len(deeds) + 3 {
			armed := v
			armed.Disk = disk.Arm(v.Disk, n)
			got, err := Commit(armed)
			want := armed
			want.Disk = deathOf(v.Disk, deeds, n)
			wantErr := api.ErrDown
			if n >= len(deeds) {
				want.Seq, want.Dirty, wantErr = v.Seq+1, nil, api.OK
			}
			if err != wantErr || !same(got, want) {
				t.Fatalf("pages %v, %d deeds: %d, Seq %d, %d pages Dirty, or another disk", pages, n, err, got.Seq, len(got.Dirty))
			}
		}
	}
}

// P12.1: the deeds of an Open: none, if the journal has nothing whole; else its pages, in its order.
func TestDeedsOfOpen(t *testing.T) {
	cases := []struct {
		journal []string
		pages   []api.Leaf
	}{
		{nil, nil},
		{[]string{lastEntry(5, 0, 0)}, nil},
		{[]string{pageEntry(5, 0, 2, page("two"))}, nil},
		{[]string{pageEntry(5, 0, 2, page("two")), lastEntry(5, 1, 1)}, []api.Leaf{{No: 2, Data: page("two")}}},
		{
			[]string{pageEntry(5, 0, 15, page("x")), pageEntry(5, 1, 0, page("y")), pageEntry(5, 2, 3, page("z")), lastEntry(5, 3, 3)},
			[]api.Leaf{{No: 15, Data: page("x")}, {No: 0, Data: page("y")}, {No: 3, Data: page("z")}},
		},
		{
			[]string{pageEntry(5, 0, 4, page("x")), pageEntry(5, 1, 2, page("y")), pageEntry(5, 2, 4, page("z")), lastEntry(5, 3, 3)},
			[]api.Leaf{{No: 4, Data: page("x")}, {No: 2, Data: page("y")}, {No: 4, Data: page("z")}},
		},
	}
	for i, c := range cases {
		d := with16(t, c.journal...)
		var deeds []api.Wet
		if len(c.pages) > 0 {
			deeds = placesOf(c.pages)
		}
		for n := range len(deeds) + 3 {
			v, then, err := Open(disk.Arm(d, n))
			want := deathOf(d, deeds, n)
			if !sameDisk(then, want) {
				t.Fatalf("case %d, %d deeds: %d, and another disk", i, n, err)
			}
			if n < len(deeds) && (err != api.ErrDown || !same(v, api.Vault{})) {
				t.Errorf("case %d, %d deeds: %d, want ErrDown and no vault", i, n, err)
			}
			if n >= len(deeds) && (err != api.OK || !sameDisk(v.Disk, want)) {
				t.Errorf("case %d, %d deeds: %d", i, n, err)
			}
		}
		v := opened(t, d)
		want := map[int]string{}
		for _, p := range c.pages {
			want[p.No] = p.Data
		}
		for no := range 16 {
			readIs(t, v, no, want[no])
		}
	}
}
