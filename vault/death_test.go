package vault

import (
	"fmt"
	"math/rand"
	"slices"
	"sync"
	"testing"

	"archivist/api"
	"archivist/disk"
)

// deaths lets the power go at each deed of v's Commit, keeps what stays tells of what wasn't sure, and holds what stands there against all or nothing.
func deaths(t *testing.T, v api.Vault, stays func(wet int) []uint64) {
	t.Helper()
	before, after := bytes(t, opened(t, v.Disk)), bytes(t, v)
	k := len(v.Dirty)
	for n := range 2*k + 4 {
		if k > 10 && n%(k/2) > 4 && n < 2*k {
			continue
		}
		w := v
		w.Disk = disk.Arm(v.Disk, n)
		w, err := Commit(w)
		if (err == api.OK) != (n == 2*k+3) {
			t.Fatalf("%d pages, %d deeds: %d", k, n, err)
		}
		for _, stay := range stays(len(w.Disk.Wet)) {
			d := disk.Start(w.Disk, stay)
			u := opened(t, d)
			got := bytes(t, u)
			// Up to its flush the journal has it whole only where all of its sectors were written, and stayed.
			if n < k+2 && (n < k+1 || !stayed(stay, k+1)) {
				if !slices.Equal(got, before) {
					t.Fatalf("%d pages, %d deeds, stay %b: not as before", k, n, stay)
				}
			} else if !slices.Equal(got, after) {
				t.Fatalf("%d pages, %d deeds, stay %b: not as behind it", k, n, stay)
			}
			if least := v.Seq; u.Seq < least || err == api.OK && u.Seq != least+1 {
				t.Fatalf("%d pages, %d deeds, stay %b: Seq %d", k, n, stay, u.Seq)
			}
			if again := opened(t, u.Disk); !same(again, u) {
				t.Fatalf("%d pages, %d deeds, stay %b: opened again, it is another one", k, n, stay)
			}
			deathsOfOpen(t, d, u)
		}
	}
}

// stayed tells whether the first n of what wasn't sure stayed.
func stayed(stay uint64, n int) bool {
	for i := range n {
		if stay>>(i%64)&1 == 0 {
			return false
		}
	}
	return true
}

// deathsOfOpen lets the power go at deeds of an Open: then the next one answers as it would have.
func deathsOfOpen(t *testing.T, d api.Disk, want api.Vault) {
	t.Helper()
	deeds := 0
	if pages := pagesOf(d.Sure[1:1+want.Shape.Journal], want.Shape.Pages); len(pages) > 0 {
		deeds = len(pages) + 1
	}
	for n := range deeds {
		if n > 1 && n != deeds/2 && n != deeds-1 {
			continue
		}
		v, dead, err := Open(disk.Arm(d, n))
		if err != api.ErrDown || !same(v, api.Vault{}) || !dead.Dead {
			t.Fatalf("armed by %d of %d: %d", n, deeds, err)
		}
		for _, stay := range []uint64{0, 5, all} {
			if u := opened(t, disk.Start(dead, stay)); !same(u, want) {
				t.Fatalf("behind a death at deed %d of %d, stay %b: another vault", n, deeds, stay)
			}
		}
	}
	whole := want
	whole.Disk.Left = 0
	if v, _, err := Open(disk.Arm(d, deeds)); err != api.OK || !same(v, whole) {
		t.Fatalf("armed by just as many as it does: %d", err)
	}
}

// every is each choice of what stays of a few sectors.
func every(wet int) []uint64 {
	var list []uint64
	for stay := range uint64(1) << wet {
		list = append(list, stay)
	}
	return append(list, all)
}

// some is a few choices.
func some(wet int) []uint64 {
	random := rand.New(rand.NewSource(int64(wet)))
	return []uint64{0, 1, 2, 1 << 63, random.Uint64(), all - 1, all >> 1, all}
}

// few is fewer.
func few(int) []uint64 { return []uint64{0, 1, all} }

// P12.2: wherever the power goes within a commit, and within the Open behind it, whatever stays: all, or nothing.
func TestDeaths(t *testing.T) {
	empty := formatted(t, 16, 8)
	one := committed(t, written(t, written(t, empty, 3, "ab"), 1, "one"))
	many := committed(t, fill(t, one, 7, "many "))
	for _, base := range []api.Vault{empty, one, many} {
		for _, pages := range [][]int{{3}, {0, 15}, {1, 2, 3}, {3, 1, 14, 15}} {
			v := base
			for _, no := range pages {
				v = written(t, v, no, fmt.Sprint("new ", no))
			}
			deaths(t, v, every)
		}
	}
}

// P12.2: as much as the journal has room for, over what was as much.
func TestDeathsOfManyPages(t *testing.T) {
	v := committed(t, fill(t, formatted(t, 16, 8), 7, "old "))
	deaths(t, fill(t, v, 7, "new "), some)
	v = committed(t, fill(t, formatted(t, 68, 68), 66, "old "))
	deaths(t, fill(t, v, 66, "new "), few)
}

// P12.2: a page that is written as it was, and one of noughts.
func TestDeathsOfTheSame(t *testing.T) {
	v := committed(t, written(t, written(t, formatted(t, 16, 8), 3, "ab"), 4, "cd"))
	deaths(t, written(t, written(t, v, 3, "ab"), 4, ""), every)
	deaths(t, written(t, v, 3, "ab"), every)
}

// P12.2: what stayed of a commit that died never comes into a later one, whatever stays of that.
func TestDeathBehindDeath(t *testing.T) {
	base := committed(t, fill(t, formatted(t, 16, 8), 3, "old "))
	for n := range 9 {
		v := fill(t, base, 3, "first ")
		v.Disk = disk.Arm(v.Disk, n)
		v, _ = Commit(v)
		for _, stay := range every(len(v.Disk.Wet)) {
			u := opened(t, disk.Start(v.Disk, stay))
			if stay%4 == 0 {
				deaths(t, written(t, fill(t, u, 3, "second "), 9, "second 9"), few)
			} else {
				deaths(t, fill(t, u, 2, "second "), few)
			}
		}
	}
}

// P12.2: Open by Open, each dying at any deed, comes to the same.
func TestManyDeathsOfOpen(t *testing.T) {
	v := fill(t, committed(t, fill(t, formatted(t, 16, 8), 7, "old ")), 7, "new ")
	want := bytes(t, v)
	v.Disk = disk.Arm(v.Disk, 9)
	v, _ = Commit(v)
	d := v.Disk
	random := rand.New(rand.NewSource(7))
	for range 500 {
		d = disk.Start(d, random.Uint64())
		u, then, err := Open(disk.Arm(d, random.Intn(8)))
		if err != api.ErrDown || !same(u, api.Vault{}) {
			t.Fatalf("Open: %d", err)
		}
		d = then
	}
	if u := opened(t, disk.Start(d, 0)); !slices.Equal(bytes(t, u), want) || u.Seq != 3 {
		t.Errorf("Seq %d, or other pages", u.Seq)
	}
}

// model is a vault told otherwise: what is committed, and what is to be.
type model struct {
	sure, now []string
	dirty     map[int]bool
}

func (m *model) settled(pages []string) {
	m.sure, m.now, m.dirty = slices.Clone(pages), slices.Clone(pages), map[int]bool{}
}

// restart brings a vault up again; the model has what was committed, or, if a commit was under way, either.
func (m *model) restart(t *testing.T, v api.Vault, stay uint64, underWay bool) api.Vault {
	t.Helper()
	v = opened(t, disk.Start(v.Disk, stay))
	got := bytes(t, v)
	if !slices.Equal(got, m.sure) && !(underWay && slices.Equal(got, m.now)) {
		t.Fatal("brought up again, it has other pages")
	}
	m.settled(got)
	return v
}

// P12.1, P12.2, P12.3: many transactions, some too great, and many deaths, held against a model.
func TestAgainstModel(t *testing.T) {
	random := rand.New(rand.NewSource(8))
	for range 40 {
		shape := api.Shape{Pages: 16 + random.Intn(5), Journal: 8 + random.Intn(5)}
		v := formatted(t, shape.Pages, shape.Journal)
		m := &model{}
		m.settled(bytes(t, v))
		for step := range 400 {
			seq := v.Seq
			switch k := random.Intn(20); {
			case k < 12:
				no, data := random.Intn(shape.Pages), mixed(random.Intn(209), int64(step))
				v = written(t, v, no, data)
				m.now[no], m.dirty[no] = page(data), true
			case k < 17:
				want := api.OK
				if len(m.dirty) >= shape.Journal {
					want = api.ErrLog
				}
				if k == 16 {
					v.Disk = disk.Arm(v.Disk, random.Intn(2*shape.Journal))
				}
				got, err := Commit(v)
				v = got
				switch {
				case err == api.ErrDown && k == 16 && want == api.OK:
					v = m.restart(t, v, random.Uint64(), true)
				case err != want:
					t.Fatalf("step %d: Commit of %d pages: %d", step, len(m.dirty), err)
				case err == api.ErrLog:
					m.settled(m.sure)
				default:
					seq += min(len(m.dirty), 1)
					m.settled(m.now)
				}
				v.Disk = disk.Arm(v.Disk, -1)
			case k < 19:
				if got := bytes(t, v); !slices.Equal(got, m.now) {
					t.Fatalf("step %d: other pages", step)
				}
			default:
				v = m.restart(t, v, random.Uint64(), false)
			}
			if v.Seq < seq || len(v.Dirty) != len(m.dirty) {
				t.Fatalf("step %d: Seq %d, %d pages Dirty", step, v.Seq, len(v.Dirty))
			}
		}
	}
}

// spare hands in lists with room behind them, and a check that they and that room are as they were.
func spare(v api.Vault) (api.Vault, func(*testing.T)) {
	sure := append(slices.Clone(v.Disk.Sure), "room", "room")
	wet := append(slices.Clone(v.Disk.Wet), api.Wet{At: 77}, api.Wet{At: 78})
	dirty := append(slices.Clone(v.Dirty), api.Leaf{No: 88}, api.Leaf{No: 89}, api.Leaf{No: 90})
	sureThen, wetThen, dirtyThen := slices.Clone(sure), slices.Clone(wet), slices.Clone(dirty)
	v.Disk.Sure, v.Disk.Wet, v.Dirty = sure[:len(sure)-2], wet[:len(wet)-2], dirty[:len(dirty)-3]
	return v, func(t *testing.T) {
		t.Helper()
		if !slices.Equal(sure, sureThen) || !slices.Equal(wet, wetThen) || !slices.Equal(dirty, dirtyThen) {
			t.Error("what was handed in has changed")
		}
	}
}

// What is handed in isn't changed, and vaults that come of one another don't change each other.
func TestNothingHandedInIsChanged(t *testing.T) {
	v := committed(t, written(t, formatted(t, 16, 8), 3, "ab"))
	v, check := spare(written(t, written(t, v, 5, "five"), 7, "seven"))
	a, b, c := written(t, v, 6, "a"), written(t, v, 6, "b"), written(t, v, 5, "c")
	check(t)
	d, e := committed(t, a), committed(t, b)
	check(t)
	written(t, written(t, d, 3, "later"), 9, "later")
	committed(t, written(t, d, 3, "later"))
	for n := range 8 {
		armed := v
		armed.Disk = disk.Arm(v.Disk, n)
		dead, _ := Commit(armed)
		check(t)
		up, upCheck := spare(api.Vault{Disk: disk.Start(dead.Disk, uint64(n))})
		opened(t, up.Disk)
		Open(disk.Arm(up.Disk, 1))
		upCheck(t)
	}
	Commit(fill(t, v, 9, "too many "))
	check(t)
	readIs(t, a, 6, "a")
	readIs(t, b, 6, "b")
	readIs(t, c, 5, "c")
	readIs(t, v, 6, "")
	readIs(t, d, 6, "a")
	readIs(t, d, 3, "ab")
	readIs(t, d, 9, "")
	readIs(t, opened(t, e.Disk), 6, "b")
}

// The two disks of one answer have no list together.
func TestDisksOfOpenAreApart(t *testing.T) {
	for _, journal := range [][]string{nil, {pageEntry(5, 0, 2, page("new")), lastEntry(5, 1, 1)}} {
		v, d, err := Open(with16(t, journal...))
		if err != api.OK {
			t.Fatalf("Open: %d", err)
		}
		for at := range d.Sure {
			d.Sure[at] = ""
		}
		if !slices.Equal(bytes(t, v), bytes(t, opened(t, with16(t, journal...)))) {
			t.Error("the disk's sectors are the vault's")
		}
	}
}

// The same arguments, the same answers, from any number of sides at once.
func TestAtOnce(t *testing.T) {
	base := committed(t, written(t, formatted(t, 16, 8), 3, "ab"))
	v := fill(t, base, 5, "w")
	want := committed(t, v)
	var sides sync.WaitGroup
	for side := range 8 {
		sides.Go(func() {
			for range 20 {
				own := base
				for no := range 5 {
					own, _ = Write(own, no, fmt.Sprint("w", no))
				}
				own, err := Commit(own)
				up, _, uperr := Open(own.Disk)
				s, readErr := Read(up, 4)
				if err != api.OK || uperr != api.OK || readErr != api.OK || s != page("w4") || !same(own, want) || !same(up, want) {
					t.Errorf("side %d: another answer", side)
				}
			}
		})
	}
	sides.Wait()
	readIs(t, base, 4, "")
}
