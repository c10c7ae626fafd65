package run

import (
	"math/rand"
	"slices"
	"sync"
	"testing"

	"archivist/api"
)

// kept is bytes as a model has them: where they stand, and what they are.
type kept struct {
	pages []int
	body  string
}

// model is a vault's bytes, told otherwise.
type model struct {
	pages int
	kept  []kept
}

// free is the pages that nothing has, rising.
func (m *model) free() []int {
	var list []int
	for no := 1; no < m.pages; no++ {
		if !slices.ContainsFunc(m.kept, func(x kept) bool { return slices.Contains(x.pages, no) }) {
			list = append(list, no)
		}
	}
	return list
}

// place is where n pages are to be; none, if there is no room.
func (m *model) place(n int, pieces bool) []int {
	free := m.free()
	for at := 0; at+n <= len(free); at++ {
		if pieces || free[at+n-1]-free[at] == n-1 {
			return free[at : at+n]
		}
	}
	return nil
}

// holds checks all bytes, page by page, and that just their pages, and page 0, are taken: none twice.
func (m *model) holds(t *testing.T, v api.Vault) {
	t.Helper()
	all := []int{0}
	for _, x := range m.kept {
		bodyIs(t, v, runsOf(x.pages...), x.body)
		all = append(all, x.pages...)
	}
	slices.Sort(all)
	if len(slices.Compact(slices.Clone(all))) != len(all) {
		t.Fatalf("a page is of two: %v", all)
	}
	if len(all) > 1 {
		takenIs(t, v, all...)
	}
}

// takes takes bytes where the model says, or finds no room.
func (m *model) takes(t *testing.T, v api.Vault, body string, pieces bool) api.Vault {
	t.Helper()
	want := m.place(need(len(body)), pieces)
	if want == nil {
		refused(t, v, len(body), pieces, api.ErrSpace)
		return v
	}
	v, l := take(t, v, body, pieces)
	if !slices.Equal(l, runsOf(want...)) || !pieces && len(l) != 1 {
		t.Fatalf("%d bytes are in %v, want %v", len(body), l, want)
	}
	m.kept = append(m.kept, kept{want, body})
	return v
}

// gives gives some back.
func (m *model) gives(t *testing.T, v api.Vault, i int) api.Vault {
	t.Helper()
	v = give(t, v, runsOf(m.kept[i].pages...)...)
	m.kept = slices.Delete(m.kept, i, i+1)
	return v
}

// size is a body's: a small one, one about the ends of pages, or any, up to more than there is room for.
func size(random *rand.Rand, pages int) int {
	switch random.Intn(4) {
	case 0:
		return 1 + random.Intn(208)
	case 1:
		return 208*(1+random.Intn(5)) + random.Intn(3) - 1
	case 2:
		return 1 + random.Intn(1500)
	}
	return 1 + random.Intn(208*(pages/3+2))
}

// P14.1, P14.2: many bodies, side by side and in pieces, taken and given back, committed and opened in between, held against a model.
func TestAgainstModel(t *testing.T) {
	random := rand.New(rand.NewSource(14))
	for _, pages := range []int{16, 16, 17, 24, 33, 64, 200, 512} {
		v := formatted(t, pages)
		m := &model{pages: pages}
		for step := range 400 {
			switch k := random.Intn(10); {
			case k < 5:
				v = m.takes(t, v, mixed(size(random, pages), int64(step)), random.Intn(2) == 0)
			case k < 9 && len(m.kept) > 0:
				v = m.gives(t, v, random.Intn(len(m.kept)))
			case len(v.Dirty) < 256:
				v = reopened(t, v)
			}
			m.holds(t, v)
		}
		for len(m.kept) > 0 {
			v = m.gives(t, v, random.Intn(len(m.kept)))
			m.holds(t, v)
		}
		takenIs(t, v, 0)
	}
}

// P14.2: several side by side, those in between given back, and others put into their pages, in pieces and not.
func TestPagesComeAgain(t *testing.T) {
	v := formatted(t, 24)
	m := &model{pages: 24}
	for i := range 7 {
		v = m.takes(t, v, mixed(208*3, int64(i)), false)
	}
	for _, i := range []int{5, 3, 1} {
		v = m.gives(t, v, i)
	}
	v = m.takes(t, v, mixed(208*4, 10), false)
	if len(m.kept) != 4 {
		t.Fatal("four side by side have found room")
	}
	v = m.takes(t, v, mixed(208*2, 11), false)
	v = m.takes(t, v, mixed(208*5, 12), true)
	if want := []int{6, 10, 11, 12, 16}; !slices.Equal(m.kept[5].pages, want) {
		t.Errorf("they are in %v, want %v", m.kept[5].pages, want)
	}
	m.holds(t, v)
	v = m.gives(t, v, 4)
	v = m.takes(t, v, mixed(208*3, 13), false)
	v = m.takes(t, v, mixed(208*4, 14), true)
	m.holds(t, v)
	takenIs(t, v, from(0, 22)...)
}

// Rule 3: what is handed in isn't changed, and vaults that come of one another don't change each other.
func TestNothingHandedInIsChanged(t *testing.T) {
	v, a := take(t, formatted(t, 16), mixed(300, 1), false)
	v, b := take(t, v, "b", true)
	sure := append(slices.Clone(v.Disk.Sure), "room")
	dirty := append(slices.Clone(v.Dirty), api.Leaf{No: 88}, api.Leaf{No: 89}, api.Leaf{No: 90})
	room := []api.Span{{Start: 2, Len: 1}, {Start: 900, Len: 5}, {Start: 77, Len: 78}}
	sureThen, dirtyThen, roomThen := slices.Clone(sure), slices.Clone(dirty), slices.Clone(room)
	v.Disk.Sure, v.Dirty = sure[:len(sure)-1], dirty[:len(dirty)-3]

	side, c := take(t, v, mixed(900, 2), false)
	pieces, d := take(t, v, mixed(800, 3), true)
	less := give(t, v, room[:2]...)
	again, e := take(t, less, mixed(417, 4), true)
	Load(v, room[:1], 1)
	refused(t, v, 208*20, true, api.ErrSpace)
	if !slices.Equal(sure, sureThen) || !slices.Equal(dirty, dirtyThen) || !slices.Equal(room, roomThen) {
		t.Error("what was handed in has changed")
	}
	bodyIs(t, v, a, mixed(300, 1))
	bodyIs(t, v, b, "b")
	bodyIs(t, side, c, mixed(900, 2))
	bodyIs(t, pieces, d, mixed(800, 3))
	bodyIs(t, again, e, mixed(417, 4))
	takenIs(t, v, 0, 1, 2, 3)
	takenIs(t, side, 0, 1, 2, 3, 4, 5, 6, 7, 8)
	takenIs(t, pieces, 0, 1, 2, 3, 4, 5, 6, 7)
	takenIs(t, less, 0, 1, 3)
	takenIs(t, again, 0, 1, 2, 3, 4, 5)
	e[0].Start = 99
	if _, again, _ := Take(less, mixed(417, 4), true); !slices.Equal(again, runsOf(2, 4, 5)) {
		t.Errorf("they are in %v", again)
	}
}

// Rules 4 and 6: the same arguments, the same answers, from any number of sides at once.
func TestAtOnce(t *testing.T) {
	base, a := take(t, formatted(t, 32), mixed(300, 1), false)
	base, b := take(t, base, "b", false)
	base = give(t, base, a...)
	body := mixed(900, 2)
	want, l := take(t, base, body, true)
	gone := give(t, want, b...)
	var sides sync.WaitGroup
	for side := range 8 {
		sides.Go(func() {
			for range 50 {
				v, at, err := Take(base, body, true)
				s, loadErr := Load(v, at, 900)
				less, giveErr := Give(v, b)
				if err != api.OK || loadErr != api.OK || giveErr != api.OK || !slices.Equal(at, l) || s != body || !same(v, want) || !same(less, gone) {
					t.Errorf("side %d: another answer", side)
				}
			}
		})
	}
	sides.Wait()
	takenIs(t, base, 0, 3)
}
