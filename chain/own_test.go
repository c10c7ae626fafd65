package chain

import (
	"math/rand"
	"slices"
	"sync"
	"testing"

	"archivist/api"
	"archivist/vault"
)

// kept is a text as a model has it: where it stands, and what it is.
type kept struct {
	pages []int
	text  string
}

// model is a vault's texts, told otherwise.
type model struct {
	pages int
	texts []kept
}

// free is the pages that are no text's, rising.
func (m *model) free() []int {
	var list []int
	for no := 1; no < m.pages; no++ {
		if !slices.ContainsFunc(m.texts, func(x kept) bool { return slices.Contains(x.pages, no) }) {
			list = append(list, no)
		}
	}
	return list
}

// place is where a text goes that needs n pages, and had these; none, if there are too few.
func (m *model) place(had []int, n int) []int {
	list := append(slices.Clone(had), m.free()...)
	if n > len(list) {
		return nil
	}
	return list[:n]
}

// holds checks each text, page by page, and that just theirs, and page 0, are taken.
func (m *model) holds(t *testing.T, v api.Vault) {
	t.Helper()
	var all []int
	for _, x := range m.texts {
		textIs(t, v, x.pages, x.text)
		all = append(all, x.pages...)
	}
	if len(all) == 0 {
		return
	}
	all = append(all, 0)
	slices.Sort(all)
	if len(slices.Compact(slices.Clone(all))) != len(all) {
		t.Fatalf("a page is two texts': %v", all)
	}
	takenIs(t, v, all...)
}

// puts puts a text anew, or in the place of one, as the model says.
func (m *model) puts(t *testing.T, v api.Vault, i int, text string) api.Vault {
	t.Helper()
	no, old := 0, kept{}
	if i < len(m.texts) {
		old = m.texts[i]
		no = old.pages[0]
	}
	want := m.place(old.pages, need(len(text)))
	got, at, err := Put(v, no, text)
	if want == nil {
		if err != api.ErrSpace || at != 0 || !same(got, v) {
			t.Fatalf("Put(%d) of %d bytes: %d, %d, want ErrSpace and the vault as it was", no, len(text), at, err)
		}
		return v
	}
	if err != api.OK || at != want[0] || no != 0 && at != no {
		t.Fatalf("Put(%d) of %d bytes: %d, %d, want %d", no, len(text), at, err, want[0])
	}
	if no == 0 {
		m.texts = append(m.texts, kept{})
	}
	m.texts[i] = kept{want, text}
	return got
}

// drops drops one.
func (m *model) drops(t *testing.T, v api.Vault, i int) api.Vault {
	t.Helper()
	v = dropped(t, v, m.texts[i].pages[0])
	m.texts = slices.Delete(m.texts, i, i+1)
	return v
}

// size is a text's: a small one, one about the ends of pages, or any, up to more than there is room for.
func size(random *rand.Rand, pages int) int {
	switch random.Intn(4) {
	case 0:
		return random.Intn(205)
	case 1:
		return max(0, 204*random.Intn(5)+random.Intn(3)-1)
	case 2:
		return random.Intn(204 * 4)
	}
	return random.Intn(204 * (pages/2 + 2))
}

// P13.1, P13.2: many texts, put, put again and dropped, committed and opened in between, held against a model.
func TestAgainstModel(t *testing.T) {
	random := rand.New(rand.NewSource(13))
	for _, pages := range []int{16, 16, 17, 24, 33, 64, 200, 512} {
		v := formatted(t, pages)
		m := &model{pages: pages}
		for step := range 400 {
			i := random.Intn(len(m.texts) + 1)
			switch k := random.Intn(10); {
			case k < 3:
				v = m.puts(t, v, len(m.texts), mixed(size(random, pages), int64(step)))
			case k < 7:
				v = m.puts(t, v, i, mixed(size(random, pages), int64(step)))
			case k < 9 && i < len(m.texts):
				v = m.drops(t, v, i)
			case len(v.Dirty) < 256:
				var err api.Errno
				if v, _, err = vault.Open(committed(t, v).Disk); err != api.OK {
					t.Fatalf("Open: %d", err)
				}
			}
			m.holds(t, v)
		}
		for len(m.texts) > 0 {
			v = m.drops(t, v, random.Intn(len(m.texts)))
		}
		takenIs(t, v, 0)
	}
}

// P13.2: several texts side by side, woven into one another by growing in turns, each a page at a time; each stays where it began, and goes alone.
func TestWovenTexts(t *testing.T) {
	v := formatted(t, 64)
	m := &model{pages: 64}
	for i := range 5 {
		v = m.puts(t, v, i, mixed(204, int64(i)))
	}
	for n := 2; n <= 12; n++ {
		for i := range 5 {
			v = m.puts(t, v, i, mixed(204*n, int64(10*n+i)))
		}
		m.holds(t, v)
	}
	if want := []int{3, 8, 13, 18, 23, 28, 33, 38, 43, 48, 53, 58}; !slices.Equal(m.texts[2].pages, want) {
		t.Errorf("the third one's pages are %v", m.texts[2].pages)
	}
	v = m.puts(t, v, 1, "")
	v = m.puts(t, v, 3, mixed(204*15, 1))
	m.holds(t, v)
	v = m.drops(t, v, 2)
	m.holds(t, v)
	for range 4 {
		v = m.drops(t, v, 0)
		m.holds(t, v)
	}
	takenIs(t, v, 0)
}

// spare hands in lists with room behind them, and a check that they and that room are as they were.
func spare(v api.Vault) (api.Vault, func(*testing.T)) {
	sure := append(slices.Clone(v.Disk.Sure), "room")
	dirty := append(slices.Clone(v.Dirty), api.Leaf{No: 88}, api.Leaf{No: 89}, api.Leaf{No: 90})
	sureThen, dirtyThen := slices.Clone(sure), slices.Clone(dirty)
	v.Disk.Sure, v.Dirty = sure[:len(sure)-1], dirty[:len(dirty)-3]
	return v, func(t *testing.T) {
		t.Helper()
		if !slices.Equal(sure, sureThen) || !slices.Equal(dirty, dirtyThen) {
			t.Error("what was handed in has changed")
		}
	}
}

// Rule 3: what is handed in isn't changed, and vaults that come of one another don't change each other.
func TestNothingHandedInIsChanged(t *testing.T) {
	v, a := put(t, formatted(t, 16), 0, mixed(300, 1))
	v, b := put(t, v, 0, "b")
	v, check := spare(v)
	room := []int{2, 900, 77, 78}
	pages := room[:2]
	longer, _ := put(t, v, a, mixed(900, 2))
	shorter, _ := put(t, v, a, "a")
	more, _ := put(t, v, 0, "c")
	less := dropped(t, v, a)
	freed(t, v, pages...)
	noSpace(t, v, b, 204*20)
	check(t)
	if !slices.Equal(room, []int{2, 900, 77, 78}) {
		t.Errorf("the pages handed in are %v", room)
	}
	walked, _, _ := Walk(v, a)
	walked[0], walked[1] = 99, 99
	textIs(t, v, []int{1, 2}, mixed(300, 1))
	textIs(t, longer, []int{1, 2, 4, 5, 6}, mixed(900, 2))
	textIs(t, shorter, []int{1}, "a")
	textIs(t, more, []int{4}, "c")
	takenIs(t, less, 0, 3)
	takenIs(t, more, 0, 1, 2, 3, 4)
	takenIs(t, v, 0, 1, 2, 3)
}

// Rules 4 and 6: the same arguments, the same answers, from any number of sides at once.
func TestAtOnce(t *testing.T) {
	base, a := put(t, formatted(t, 32), 0, mixed(300, 1))
	want, _ := put(t, base, a, mixed(900, 2))
	gone := dropped(t, want, a)
	var sides sync.WaitGroup
	for side := range 8 {
		sides.Go(func() {
			for range 50 {
				v, at, err := Put(base, a, mixed(900, 2))
				pages, s, walkErr := Walk(v, at)
				less, dropErr := Drop(v, at)
				if err != api.OK || walkErr != api.OK || dropErr != api.OK || at != a || s != mixed(900, 2) || len(pages) != 5 || !same(v, want) || !same(less, gone) {
					t.Errorf("side %d: another answer", side)
				}
			}
		})
	}
	sides.Wait()
	textIs(t, base, []int{1, 2}, mixed(300, 1))
}
