package disk

import (
	"fmt"
	"math"
	"math/rand"
	"slices"
	"strings"
	"sync"
	"testing"

	"archivist/api"
)

func full(s string) string { return s + strings.Repeat("\x00", 256-len(s)) }

// made is a new disk of n sectors whose first ones surely begin with the given texts.
func made(t *testing.T, n int, texts ...string) api.Disk {
	t.Helper()
	d, err := New(n)
	if err != api.OK {
		t.Fatalf("New(%d): %d", n, err)
	}
	for at, s := range texts {
		d = written(t, d, at, s)
	}
	return flushed(t, d)
}

func written(t *testing.T, d api.Disk, at int, data string) api.Disk {
	t.Helper()
	d, err := Write(d, at, data)
	if err != api.OK {
		t.Fatalf("Write(%d): %d", at, err)
	}
	return d
}

func flushed(t *testing.T, d api.Disk) api.Disk {
	t.Helper()
	d, err := Flush(d)
	if err != api.OK {
		t.Fatalf("Flush: %d", err)
	}
	return d
}

func readIs(t *testing.T, d api.Disk, at int, want string) {
	t.Helper()
	got, err := Read(d, at)
	if err != api.OK || got != full(want) {
		t.Errorf("Read(%d): %q, %d; want %q", at, strings.TrimRight(got, "\x00"), err, want)
	}
}

// same holds disks against each other; a list of nothing may be nil or empty.
func same(a, b api.Disk) bool {
	return slices.Equal(a.Sure, b.Sure) && slices.Equal(a.Wet, b.Wet) && a.Dead == b.Dead && a.Left == b.Left
}

func TestNew(t *testing.T) {
	for _, n := range []int{math.MinInt, -1, 0, 2001, math.MaxInt} {
		d, err := New(n)
		if err != api.ErrArg || !same(d, api.Disk{}) {
			t.Errorf("New(%d): %d, want ErrArg and no disk", n, err)
		}
	}
	for _, n := range []int{1, 2, 1999, 2000} {
		d, err := New(n)
		if err != api.OK || len(d.Sure) != n || len(d.Wet) != 0 || d.Dead || d.Left != -1 {
			t.Errorf("New(%d): %d, %d sectors, Dead %v, Left %d", n, err, len(d.Sure), d.Dead, d.Left)
		}
		for at, s := range d.Sure {
			if s != full("") {
				t.Fatalf("New(%d): sector %d is %q", n, at, s)
			}
		}
	}
}

func TestReadOfSectorsThatAreNot(t *testing.T) {
	living := made(t, 3, "a", "b", "c")
	dead := living
	dead.Dead = true
	for _, at := range []int{math.MinInt, -1, 3, math.MaxInt} {
		for _, d := range []api.Disk{living, dead} {
			if s, err := Read(d, at); s != "" || err != api.ErrArg {
				t.Errorf("Read(%d): %q, %d, want ErrArg", at, s, err)
			}
		}
	}
	if s, err := Read(api.Disk{}, 0); s != "" || err != api.ErrArg {
		t.Errorf("Read of no disk: %q, %d", s, err)
	}
}

func TestReadOfDeadDisk(t *testing.T) {
	d := written(t, made(t, 2, "a", "b"), 1, "new")
	d.Dead = true
	for at := range 2 {
		if s, err := Read(d, at); s != "" || err != api.ErrDown {
			t.Errorf("Read(%d): %q, %d, want ErrDown", at, s, err)
		}
	}
}

func TestReadTellsWhatIsToBe(t *testing.T) {
	d := made(t, 4, "a", "b", "c", "d")
	d = written(t, d, 3, "last")
	d = written(t, d, 1, "one")
	for at, want := range []string{"a", "one", "c", "last"} {
		readIs(t, d, at, want)
	}
	d = written(t, d, 1, "again")
	readIs(t, d, 1, "again")
}

func TestReadIsNoDeed(t *testing.T) {
	for _, left := range []int{0, 1, -1} {
		d := Arm(made(t, 2, "a", "b"), left)
		for range 5 {
			readIs(t, d, 1, "b")
		}
		if d.Dead || d.Left != left {
			t.Errorf("Left %d: Dead %v, Left %d", left, d.Dead, d.Left)
		}
	}
}

func TestWriteOfWrongArguments(t *testing.T) {
	living := written(t, made(t, 3, "a", "b", "c"), 2, "new")
	dead := living
	dead.Dead = true
	cases := []struct {
		at   int
		data string
	}{
		{math.MinInt, ""}, {-1, "x"}, {3, "x"}, {math.MaxInt, ""},
		{0, strings.Repeat("x", 257)}, {2, strings.Repeat("\x00", 257)}, {1, strings.Repeat("x", 5000)},
		{3, strings.Repeat("x", 257)},
	}
	for _, c := range cases {
		for _, d := range []api.Disk{living, dead, Arm(living, 0), Arm(living, 2)} {
			got, err := Write(d, c.at, c.data)
			if err != api.ErrArg || !same(got, d) {
				t.Errorf("Write(%d, %d bytes): %d, want ErrArg and the disk as it was", c.at, len(c.data), err)
			}
		}
	}
}

func TestWriteFillsUpWithNoughts(t *testing.T) {
	d := made(t, 2, strings.Repeat("o", 256))
	for _, n := range []int{0, 1, 255, 256} {
		data := strings.Repeat("n", n)
		got := written(t, d, 0, data)
		readIs(t, got, 0, data)
		if len(got.Wet) != 1 || got.Wet[0] != (api.Wet{At: 0, Data: full(data)}) {
			t.Errorf("%d bytes: Wet %v", n, got.Wet)
		}
		if got = flushed(t, got); got.Sure[0] != full(data) || got.Sure[1] != full("") {
			t.Errorf("%d bytes: Sure %q", n, got.Sure)
		}
	}
	anyBytes := "\xff\x00\xfe\n"
	readIs(t, flushed(t, written(t, d, 1, anyBytes)), 1, anyBytes)
}

func TestWriteKeepsRisingSectors(t *testing.T) {
	d := made(t, 10)
	for i, at := range []int{5, 0, 9, 5, 3, 4, 9, 0, 6} {
		d = written(t, d, at, fmt.Sprint("write ", i))
	}
	want := []api.Wet{
		{At: 0, Data: full("write 7")}, {At: 3, Data: full("write 4")}, {At: 4, Data: full("write 5")},
		{At: 5, Data: full("write 3")}, {At: 6, Data: full("write 8")}, {At: 9, Data: full("write 6")},
	}
	if !slices.Equal(d.Wet, want) {
		t.Errorf("Wet %v, want %v", d.Wet, want)
	}
	for _, s := range d.Sure {
		if s != full("") {
			t.Fatal("a Write made a sector sure")
		}
	}
}

func TestDeeds(t *testing.T) {
	base := written(t, made(t, 2, "a", "b"), 1, "new")
	cases := []struct {
		left     int
		dead     bool
		done     bool
		leftThen int
	}{
		{0, false, false, 0}, {1, false, true, 0}, {7, false, true, 6}, {-1, false, true, -1},
		{math.MaxInt, false, true, math.MaxInt - 1}, {math.MinInt, false, true, math.MinInt}, {-9, false, true, -9},
		{0, true, false, 0}, {1, true, false, 1}, {-1, true, false, -1}, {math.MinInt, true, false, math.MinInt},
	}
	for _, c := range cases {
		d := base
		d.Left, d.Dead = c.left, c.dead
		w, werr := Write(d, 0, "x")
		f, ferr := Flush(d)
		if !c.done {
			d.Dead = true
			if werr != api.ErrDown || ferr != api.ErrDown || !same(w, d) || !same(f, d) {
				t.Errorf("Left %d, Dead %v: %d, %d, want ErrDown and the disk Dead", c.left, c.dead, werr, ferr)
			}
			continue
		}
		if werr != api.OK || w.Dead || w.Left != c.leftThen || len(w.Wet) != 2 {
			t.Errorf("Write, Left %d: %d, Dead %v, Left %d", c.left, werr, w.Dead, w.Left)
		}
		if ferr != api.OK || f.Dead || f.Left != c.leftThen || len(f.Wet) != 0 {
			t.Errorf("Flush, Left %d: %d, Dead %v, Left %d", c.left, ferr, f.Dead, f.Left)
		}
	}
}

func TestDeedsUpToTheLast(t *testing.T) {
	d := Arm(made(t, 3), 3)
	d = flushed(t, written(t, written(t, d, 0, "a"), 1, "b"))
	if d.Left != 0 || d.Dead {
		t.Fatalf("behind three deeds: Left %d, Dead %v", d.Left, d.Dead)
	}
	readIs(t, d, 1, "b")
	d, err := Write(d, 2, "c")
	if err != api.ErrDown || !d.Dead || len(d.Wet) != 0 {
		t.Errorf("the fourth: %d, Dead %v, Wet %d", err, d.Dead, len(d.Wet))
	}
	if d, err = Flush(Arm(d, 5)); err != api.ErrDown || !d.Dead || d.Left != 5 {
		t.Errorf("armed, but Dead: %d, Dead %v, Left %d", err, d.Dead, d.Left)
	}
}

func TestFlush(t *testing.T) {
	d := made(t, 4, "a", "b", "c", "d")
	d = flushed(t, written(t, written(t, d, 3, "three"), 1, "one"))
	want := []string{full("a"), full("one"), full("c"), full("three")}
	if !slices.Equal(d.Sure, want) || len(d.Wet) != 0 || d.Dead || d.Left != -1 {
		t.Errorf("Flush: %q, Wet %d", d.Sure, len(d.Wet))
	}
	if again := flushed(t, d); !same(again, d) {
		t.Error("a Flush of nothing has changed something")
	}
	if again, err := Flush(Arm(d, 1)); err != api.OK || again.Left != 0 {
		t.Errorf("a Flush of nothing is a deed: %d, Left %d", err, again.Left)
	}
}

func TestFlushOfMoreThan64(t *testing.T) {
	d := made(t, 200)
	for at := range 200 {
		d = written(t, d, at, fmt.Sprint(at))
	}
	d = flushed(t, d)
	for at, s := range d.Sure {
		if s != full(fmt.Sprint(at)) {
			t.Fatalf("sector %d isn't sure", at)
		}
	}
}

func TestArm(t *testing.T) {
	d := written(t, made(t, 2, "a", "b"), 1, "new")
	for n, left := range map[int]int{
		0: 0, 1: 1, 5: 5, -1: -1, -2: -1, -7: -1, math.MinInt: -1, math.MaxInt: math.MaxInt,
	} {
		for _, dead := range []bool{false, true} {
			for _, before := range []int{-1, 0, 3, -8} {
				d.Dead, d.Left = dead, before
				want := d
				want.Left = left
				if got := Arm(d, n); !same(got, want) {
					t.Errorf("Arm(%d) of Left %d, Dead %v: Left %d, Dead %v", n, before, dead, got.Left, got.Dead)
				}
			}
		}
	}
}

func TestStartByStay(t *testing.T) {
	d := made(t, 4, "a", "b", "c", "d")
	d = written(t, written(t, written(t, d, 3, "three"), 1, "one"), 2, "two")
	cases := []struct {
		stay uint64
		want []string
	}{
		{0, []string{"a", "b", "c", "d"}},
		{1, []string{"a", "one", "c", "d"}},
		{2, []string{"a", "b", "two", "d"}},
		{4, []string{"a", "b", "c", "three"}},
		{5, []string{"a", "one", "c", "three"}},
		{7, []string{"a", "one", "two", "three"}},
		{8, []string{"a", "b", "c", "d"}},
		{math.MaxUint64, []string{"a", "one", "two", "three"}},
		{math.MaxUint64 - 1, []string{"a", "b", "two", "three"}},
	}
	for _, c := range cases {
		for _, dead := range []bool{false, true} {
			for _, left := range []int{-1, 0, 4, -6} {
				d.Dead, d.Left = dead, left
				got := Start(d, c.stay)
				want := api.Disk{Left: -1}
				for _, s := range c.want {
					want.Sure = append(want.Sure, full(s))
				}
				if !same(got, want) {
					t.Errorf("Start by %b of Dead %v, Left %d: %q, Wet %d, Dead %v, Left %d",
						c.stay, dead, left, got.Sure, len(got.Wet), got.Dead, got.Left)
				}
			}
		}
	}
}

func TestStartOfMoreThan64(t *testing.T) {
	const n = 150
	d := made(t, n)
	for at := n - 1; at >= 0; at-- {
		d = written(t, d, at, "new")
	}
	for _, stay := range []uint64{0, 1, 2, 1 << 21, 1 << 22, 1 << 63, 0x8000_0000_0000_0001, math.MaxUint64} {
		got := Start(d, stay)
		for at, s := range got.Sure {
			want := full("")
			if stay&(1<<(at%64)) != 0 {
				want = full("new")
			}
			if s != want {
				t.Fatalf("stay %x: sector %d is %q", stay, at, s[:3])
			}
		}
	}
}

func TestStartCountsSectorsThatAreToBe(t *testing.T) {
	// The 65th of them, at sector 129, goes by bit 0, as the first does, at sector 1.
	d := made(t, 200)
	for i := range 70 {
		d = written(t, d, 2*i+1, "new")
	}
	d = Start(d, 1)
	for at, s := range d.Sure {
		if (s == full("new")) != (at == 1 || at == 129) {
			t.Errorf("sector %d is %q", at, s[:3])
		}
	}
}

// model is a disk told otherwise, by maps.
type model struct {
	sure, wet map[int]string
	n         int
	dead      bool
	left      int
}

func (m *model) deed() bool {
	if m.dead || m.left == 0 {
		m.dead = true
		return false
	}
	if m.left > 0 {
		m.left--
	}
	return true
}

func (m *model) rising() []int {
	var at []int
	for k := range m.wet {
		at = append(at, k)
	}
	slices.Sort(at)
	return at
}

func (m *model) write(at int, data string) api.Errno {
	if at < 0 || at >= m.n || len(data) > 256 {
		return api.ErrArg
	}
	if !m.deed() {
		return api.ErrDown
	}
	m.wet[at] = full(data)
	return api.OK
}

func (m *model) settle(stay uint64) {
	for i, at := range m.rising() {
		if stay&(1<<(i%64)) != 0 {
			m.sure[at] = m.wet[at]
		}
	}
	m.wet = map[int]string{}
}

func (m *model) flush() api.Errno {
	if !m.deed() {
		return api.ErrDown
	}
	m.settle(math.MaxUint64)
	return api.OK
}

func (m *model) disk() api.Disk {
	d := api.Disk{Dead: m.dead, Left: m.left}
	for at := range m.n {
		d.Sure = append(d.Sure, m.sure[at])
	}
	for _, at := range m.rising() {
		d.Wet = append(d.Wet, api.Wet{At: at, Data: m.wet[at]})
	}
	return d
}

func newModel(n int) *model {
	m := &model{sure: map[int]string{}, wet: map[int]string{}, n: n, left: -1}
	for at := range n {
		m.sure[at] = full("")
	}
	return m
}

func TestAgainstModel(t *testing.T) {
	r := rand.New(rand.NewSource(1))
	for range 60 {
		n := 1 + r.Intn(100)
		d, m := made(t, n), newModel(n)
		for step := range 150 {
			var got, want api.Errno
			switch k := r.Intn(20); {
			case k < 14:
				at, data := r.Intn(n+2)-1, strings.Repeat(fmt.Sprint(step%10), r.Intn(260))
				d, got = Write(d, at, data)
				want = m.write(at, data)
			case k < 16:
				d, got = Flush(d)
				want = m.flush()
			case k < 18:
				left := r.Intn(20) - 3
				d = Arm(d, left)
				m.left = max(left, -1)
			default:
				stay := r.Uint64()
				d = Start(d, stay)
				m.settle(stay)
				m.dead, m.left = false, -1
			}
			if got != want || !same(d, m.disk()) {
				t.Fatalf("step %d: %d, want %d; or another disk", step, got, want)
			}
		}
	}
}

// TestSureIsSure lets the power go at each deed behind a Flush, and keeps any of what wasn't sure.
func TestSureIsSure(t *testing.T) {
	base := made(t, 6, "a", "b", "c", "d", "e", "f")
	for death := range 12 {
		for stay := range uint64(64) {
			d := Arm(base, death)
			sure := []string{"a", "b", "c", "d", "e", "f"}
			for i := range 12 {
				var err api.Errno
				at, data := i*5%6, fmt.Sprint("try ", i)
				if i%6 < 4 {
					d, err = Write(d, at, data)
				} else {
					d, err = Flush(d)
				}
				if err == api.OK && i%6 == 4 {
					sure = told(t, d)
				}
			}
			checkSure(t, Start(d, stay), sure, d.Wet)
		}
	}
}

func told(t *testing.T, d api.Disk) []string {
	t.Helper()
	var all []string
	for at := range d.Sure {
		s, err := Read(d, at)
		if err != api.OK {
			t.Fatalf("Read(%d): %d", at, err)
		}
		all = append(all, strings.TrimRight(s, "\x00"))
	}
	return all
}

// checkSure holds each sector against what was flushed; one that was to be something else may be that.
func checkSure(t *testing.T, d api.Disk, sure []string, wet []api.Wet) {
	t.Helper()
	for at, want := range sure {
		s, err := Read(d, at)
		or := slices.Contains(wet, api.Wet{At: at, Data: s})
		if err != api.OK || s != full(want) && !or {
			t.Fatalf("sector %d: %q, %d, want %q", at, strings.TrimRight(s, "\x00"), err, want)
		}
	}
}

func TestSureStaysBehindManyDeaths(t *testing.T) {
	d := made(t, 3, "a", "b", "c")
	for i := range 50 {
		d = Arm(d, i%3)
		for range 4 {
			d, _ = Write(d, 1, fmt.Sprint("lost ", i))
		}
		d = Start(d, 0)
	}
	for at, want := range []string{"a", "b", "c"} {
		readIs(t, d, at, want)
	}
}

// spare hands in lists with room behind them, and a copy to hold them against.
func spare(d api.Disk) (api.Disk, func(*testing.T)) {
	sure := append(slices.Clone(d.Sure), full("room"), full("room"))
	wet := append(slices.Clone(d.Wet), api.Wet{At: 77}, api.Wet{At: 78})
	sureThen, wetThen := slices.Clone(sure), slices.Clone(wet)
	d.Sure, d.Wet = sure[:len(sure)-2], wet[:len(wet)-2]
	return d, func(t *testing.T) {
		t.Helper()
		if !slices.Equal(sure, sureThen) || !slices.Equal(wet, wetThen) {
			t.Error("what was handed in has changed")
		}
	}
}

func TestNothingHandedInIsChanged(t *testing.T) {
	d := made(t, 4, "a", "b", "c", "d")
	d, check := spare(written(t, written(t, d, 1, "one"), 2, "two"))
	a := written(t, d, 3, "x")
	b := written(t, d, 3, "y")
	c := written(t, written(t, a, 1, "z"), 0, "w")
	check(t)
	flushed(t, d)
	check(t)
	Start(d, 1)
	Arm(d, 3)
	check(t)
	readIs(t, a, 3, "x")
	readIs(t, b, 3, "y")
	readIs(t, c, 0, "w")
	readIs(t, a, 1, "one")
	e := flushed(t, b)
	written(t, e, 0, "later")
	flushed(t, written(t, e, 0, "later"))
	if !slices.Equal(told(t, e), []string{"a", "one", "two", "y"}) {
		t.Errorf("a later Write has changed an earlier disk: %q", told(t, e))
	}
}

// TestRawDisks asks of disks that no call has made: each call ends, and what is told before a Flush is told behind it.
func TestRawDisks(t *testing.T) {
	wet := []api.Wet{
		{At: 2, Data: "two"}, {At: -1, Data: "no"}, {At: 0, Data: "nought"}, {At: 2, Data: "two again"},
		{At: math.MaxInt}, {At: math.MinInt}, {At: 3, Data: strings.Repeat("x", 300)},
	}
	for _, d := range []api.Disk{
		{}, {Wet: wet}, {Sure: []string{"", "b", strings.Repeat("c", 900)}, Wet: wet}, {Sure: make([]string, 2500), Wet: wet},
	} {
		d.Left = -1
		for at := -1; at < 4; at++ {
			s, err := Read(d, at)
			f := flushed(t, d)
			if then, ferr := Read(f, at); then != s || ferr != err {
				t.Errorf("sector %d: %q ahead of the Flush, %q behind it", at, s, then)
			}
			w, werr := Write(d, at, "new")
			if (werr == api.ErrArg) != (err == api.ErrArg) {
				t.Errorf("sector %d: Read %d, Write %d", at, err, werr)
			}
			if werr == api.OK {
				readIs(t, w, at, "new")
				readIs(t, flushed(t, w), at, "new")
			}
		}
		if s := Start(d, math.MaxUint64); len(s.Sure) != len(d.Sure) || len(s.Wet) != 0 {
			t.Errorf("Start: %d sectors of %d", len(s.Sure), len(d.Sure))
		}
	}
}

func TestManyGoroutines(t *testing.T) {
	d := written(t, made(t, 8, "a", "b", "c"), 1, "one")
	var all sync.WaitGroup
	answers := make([]api.Disk, 16)
	for i := range answers {
		all.Add(1)
		go func() {
			defer all.Done()
			own, _ := Write(d, 2, "two")
			own, _ = Flush(own)
			own, _ = Write(own, 3, "three")
			answers[i] = Start(own, 1)
		}()
	}
	all.Wait()
	for _, a := range answers {
		if !slices.Equal(told(t, a), []string{"a", "one", "two", "three", "", "", "", ""}) {
			t.Errorf("another answer: %q", told(t, a))
		}
	}
	readIs(t, d, 2, "c")
}
