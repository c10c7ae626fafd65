package item

import (
	"cmp"
	"math"
	"math/rand"
	"slices"
	"strconv"
	"strings"
	"sync"
	"testing"

	"archivist/api"
)

const tag = "0123456789abcdef"

// object is an item that may be, if its key and number may.
func object(key string, seq int) api.Item {
	return api.Item{Key: key, Seq: seq, Meta: "meta", ETag: tag, Body: key + strconv.Itoa(seq)}
}

// changed is an item that may be, but for what is done to it.
func changed(change func(x *api.Item)) api.Item {
	x := object("key", 7)
	change(&x)
	return x
}

// mark is a mark that may be, but for what is done to it.
func mark(change func(x *api.Item)) api.Item {
	x := api.Item{Key: "key", Seq: 7, Marker: true}
	change(&x)
	return x
}

type rightCase struct {
	what string
	x    api.Item
	want bool
}

func areRight(t *testing.T, cases []rightCase) {
	t.Helper()
	for _, c := range cases {
		if got := Right(c.x); got != c.want {
			t.Errorf("%s: Right: %v", c.what, got)
		}
	}
}

// P6.1: an item's key.
func TestRightKey(t *testing.T) {
	var cases []rightCase
	for _, c := range []struct {
		what, key string
		want      bool
	}{
		{"a key of one byte", "a", true},
		{"as many bytes as there may be", strings.Repeat("k", api.MaxKey), true},
		{"bytes that are no runes", "\xff\x01", true},
		{"none", "", false},
		{"a byte more than there may be", strings.Repeat("k", api.MaxKey+1), false},
		{"far more", strings.Repeat("k", 70000), false},
		{"a 0 alone", "\x00", false},
		{"a 0 within", "a\x00b", false},
		{"a 0 last", "a\x00", false},
	} {
		cases = append(cases,
			rightCase{c.what, changed(func(x *api.Item) { x.Key = c.key }), c.want},
			rightCase{c.what + ", of a mark", mark(func(x *api.Item) { x.Key = c.key }), c.want})
	}
	areRight(t, cases)
}

// P6.1: an item's numbers, the ends of their type too.
func TestRightNumbers(t *testing.T) {
	ends := []int{math.MinInt, math.MinInt + 1, -1 << 32, -1<<32 + 1, -1 << 31, -2, -1, 0, 1, 2, 3, 255, 256, 65536, 1<<31 - 2, 1<<31 - 1, 1 << 31, 1<<31 + 1, 1<<32 - 1, 1 << 32, 1<<32 + 1, math.MaxInt - 1, math.MaxInt}
	for _, seq := range ends {
		for _, version := range ends {
			seqMay := seq == 1 || seq == 2 || seq == 3 || seq == 255 || seq == 256 || seq == 65536 || seq == 2147483646 || seq == 2147483647
			want := seqMay && (version == 0 || version == seq)
			numbers := func(x *api.Item) { x.Seq, x.Version = seq, version }
			if got := Right(changed(numbers)); got != want {
				t.Errorf("Seq %d, Version %d: %v", seq, version, got)
			}
			if got := Right(mark(numbers)); got != want {
				t.Errorf("a mark of Seq %d, Version %d: %v", seq, version, got)
			}
		}
	}
}

// P6.1: a version just beside 0 and beside Seq is none.
func TestRightVersion(t *testing.T) {
	for version := -20; version <= 20; version++ {
		x := changed(func(x *api.Item) { x.Version = version })
		if got, want := Right(x), version == 0 || version == 7; got != want {
			t.Errorf("Seq 7, Version %d: %v", version, got)
		}
	}
}

// P6.1: texts of each length about the limits, of an object and of a mark.
func TestRightTexts(t *testing.T) {
	for _, c := range []struct {
		what        string
		set         func(x *api.Item, s string)
		least, most int
	}{
		{"Meta", func(x *api.Item, s string) { x.Meta = s }, 0, 40},
		{"ETag", func(x *api.Item, s string) { x.ETag = s }, 16, 24},
		{"Body", func(x *api.Item, s string) { x.Body = s }, 0, 1500},
	} {
		for n := range 1600 {
			// A rune of two bytes: bytes count, not runes.
			for _, s := range []string{strings.Repeat("x", n), strings.Repeat("\x00", n), strings.Repeat("ż", n)} {
				x := changed(func(x *api.Item) { c.set(x, s) })
				if got, want := Right(x), c.least <= len(s) && len(s) <= c.most; got != want {
					t.Errorf("%s of %d bytes: %v", c.what, len(s), got)
				}
				m := mark(func(x *api.Item) { c.set(x, s) })
				if got, want := Right(m), len(s) == 0; got != want {
					t.Errorf("a mark with %s of %d bytes: %v", c.what, len(s), got)
				}
			}
		}
	}
}

// P6.1: all at its limit at once, and raw items.
func TestRightWhole(t *testing.T) {
	full := api.Item{Key: strings.Repeat("k", 24), Seq: 1<<31 - 1, Version: 1<<31 - 1, Meta: strings.Repeat("m", 40), ETag: strings.Repeat("e", 24), Body: strings.Repeat("b", 1500)}
	marked := full
	marked.Marker = true
	bare := mark(func(x *api.Item) {})
	nothing := bare
	nothing.Marker = false
	areRight(t, []rightCase{
		{"an object", object("a", 1), true},
		{"an object of no bytes, without Meta", changed(func(x *api.Item) { x.Meta, x.Body = "", "" }), true},
		{"all at its limit", full, true},
		{"all at its limit, as a mark", marked, false},
		{"the least", api.Item{Key: "k", Seq: 1, ETag: tag}, true},
		{"the least mark", api.Item{Key: "k", Seq: 1, Marker: true}, true},
		{"a mark with a version", mark(func(x *api.Item) { x.Version = 7 }), true},
		{"a mark with another's version", mark(func(x *api.Item) { x.Version = 6 }), false},
		{"a mark with a whole object", mark(func(x *api.Item) { x.Meta, x.ETag, x.Body = "m", tag, "b" }), false},
		{"a mark with an ETag", mark(func(x *api.Item) { x.ETag = tag }), false},
		{"no mark, and no ETag", nothing, false},
		{"an ETag of 15 bytes", changed(func(x *api.Item) { x.ETag = tag[1:] }), false},
		{"an ETag of 25 bytes", changed(func(x *api.Item) { x.ETag = tag + "123456789" }), false},
		{"an ETag of parts", changed(func(x *api.Item) { x.ETag = tag + "-6" }), true},
		{"the zero item", api.Item{}, false},
		{"the zero mark", api.Item{Marker: true}, false},
		{"far too long a body", changed(func(x *api.Item) { x.Body = strings.Repeat("b", 1<<20) }), false},
	})
}

// by is how items are to stand: by Key, and of one Key the greater Seq first.
func by(a, b api.Item) int {
	return cmp.Or(strings.Compare(a.Key, b.Key), cmp.Compare(b.Seq, a.Seq))
}

// P6.1: each pair of keys that are like one another, with numbers of all kinds.
func TestLess(t *testing.T) {
	var all []api.Item
	for _, key := range []string{"", "\x00", "\x01", "A", "a", "a\x00", "a\x01", "aa", "ab", "a\xff", "b", "ż", "\xff", strings.Repeat("a", 24), strings.Repeat("a", 25)} {
		for _, seq := range []int{math.MinInt, -1 << 31, -256, -1, 0, 1, 2, 9, 10, 255, 256, 1<<31 - 1, 1 << 31, 1 << 32, math.MaxInt} {
			all = append(all, object(key, seq))
		}
	}
	for _, a := range all {
		for _, b := range all {
			if got, want := Less(a, b), by(a, b) < 0; got != want {
				t.Fatalf("Less(%q %d, %q %d): %v", a.Key, a.Seq, b.Key, b.Seq, got)
			}
		}
	}
}

// P6.1: nothing but Key and Seq says where an item stands.
func TestLessByKeyAndSeqAlone(t *testing.T) {
	low := api.Item{Key: "b", Seq: 5}
	for _, high := range []api.Item{
		{Key: "b", Seq: 5, Version: 9}, {Key: "b", Seq: 5, Marker: true}, {Key: "b", Seq: 5, Meta: "z"}, {Key: "b", Seq: 5, ETag: "z"}, {Key: "b", Seq: 5, Body: "z"},
	} {
		if Less(low, high) || Less(high, low) {
			t.Errorf("%+v and %+v: one stands ahead", low, high)
		}
		high.Seq = 6
		if Less(low, high) || !Less(high, low) {
			t.Errorf("%+v doesn't stand ahead of %+v", high, low)
		}
		high.Key = "c"
		if !Less(low, high) || Less(high, low) {
			t.Errorf("%+v doesn't stand ahead of %+v", low, high)
		}
	}
}

// listed is items by their keys and numbers, "a3 b1" and so on.
func listed(s string) []api.Item {
	var l []api.Item
	for _, word := range strings.Fields(s) {
		seq, _ := strconv.Atoi(word[1:])
		l = append(l, object(word[:1], seq))
	}
	return l
}

func told(l []api.Item) string {
	words := make([]string, 0, len(l))
	for _, x := range l {
		words = append(words, x.Key+strconv.Itoa(x.Seq))
	}
	return strings.Join(words, " ")
}

func isList(t *testing.T, what string, got, want []api.Item) {
	t.Helper()
	if !slices.Equal(got, want) {
		t.Errorf("%s: %s, want %s (or their texts differ)", what, told(got), told(want))
	}
}

// P6.1: those of a key, with all that they are.
func TestOf(t *testing.T) {
	for _, c := range []struct{ what, l, key, want string }{
		{"first ones", "a3 a1 b2", "a", "a3 a1"},
		{"between", "a3 b9 b4 b2 c1", "b", "b9 b4 b2"},
		{"last ones", "a3 b2 c7 c1", "c", "c7 c1"},
		{"all", "b3 b2 b1", "b", "b3 b2 b1"},
		{"one", "a1 b2 c3", "b", "b2"},
		{"none between", "a1 c3", "b", ""},
		{"none ahead", "b1 c3", "a", ""},
		{"none behind", "a1 b3", "c", ""},
		{"of nothing", "", "a", ""},
		{"the empty key", "a1 b3", "", ""},
		{"a key that goes on", "a1 b3", "ab", ""},
		{"a greater letter", "a1 b3", "A", ""},
		{"a key that may not be", "a1 b3", "a\x00", ""},
		{"a list that isn't in order, in its order", "b1 a1 b3 c2 b2", "b", "b1 b3 b2"},
		{"two of one Key and Seq", "b3 b3 c1", "b", "b3 b3"},
	} {
		isList(t, c.what, Of(listed(c.l), c.key), listed(c.want))
	}
	isList(t, "of nil", Of(nil, "a"), nil)
	isList(t, "of an empty list", Of([]api.Item{}, "a"), nil)
}

// P6.1: a key that is another's beginning, and items that may not be.
func TestOfRaw(t *testing.T) {
	l := []api.Item{{}, {Key: "a", Seq: -1}, {Key: "a\x00"}, {Key: "aa"}, {Key: "a", Marker: true, Body: "b"}, {Seq: 3}}
	isList(t, "a", Of(l, "a"), []api.Item{l[1], l[4]})
	isList(t, "the empty key", Of(l, ""), []api.Item{l[0], l[5]})
	isList(t, "a and a 0", Of(l, "a\x00"), []api.Item{l[2]})
	isList(t, "aa", Of(l, "aa"), []api.Item{l[3]})
}

// P6.1: whether each stands ahead of the next one.
func TestOrdered(t *testing.T) {
	for _, c := range []struct {
		what, l string
		want    bool
	}{
		{"none", "", true},
		{"one", "a1", true},
		{"two keys", "a1 b1", true},
		{"two of one key", "a2 a1", true},
		{"the example", "a2 b3 b1", true},
		{"more", "a9 a2 a1 b10 b9 c2147483647 c1 z1", true},
		{"keys the other way", "b1 a1", false},
		{"numbers the other way", "a1 a2", false},
		{"numbers as texts", "a9 a10", false},
		{"the first two the other way", "b1 a2 c3", false},
		{"the last two the other way", "a1 b2 b3", false},
		{"the first one last", "b3 b1 a2", false},
		{"two of one Key and Seq", "a1 a1", false},
		{"two of one, first", "a1 a1 b1", false},
		{"two of one, last", "a1 b1 b1", false},
		{"two of one, between", "a1 b1 b1 c1", false},
		{"one of Seq 0", "a0", false},
		{"one of Seq 2^31", "a2147483648", false},
		{"one of Seq 0, last", "a2 a1 a0", false},
		{"one below nought, last", "a2 a1 a-1", false},
		{"one of Seq 2^31, first", "a2147483648 a1", false},
	} {
		if got := Ordered(listed(c.l)); got != c.want {
			t.Errorf("%s: %v", c.what, got)
		}
	}
	if !Ordered(nil) || !Ordered([]api.Item{}) {
		t.Error("no items: false")
	}
}

// P6.1: one that may not be, at each place of a list that is in order otherwise.
func TestOrderedAllMayBe(t *testing.T) {
	for at := range 5 {
		for what, spoil := range map[string]func(x *api.Item){
			"nothing":        nil,
			"a version":      func(x *api.Item) { x.Version = x.Seq + 1 },
			"a long Meta":    func(x *api.Item) { x.Meta = strings.Repeat("m", 41) },
			"a long Body":    func(x *api.Item) { x.Body = strings.Repeat("b", 1501) },
			"a short ETag":   func(x *api.Item) { x.ETag = tag[1:] },
			"a long ETag":    func(x *api.Item) { x.ETag = strings.Repeat("e", 25) },
			"a full mark":    func(x *api.Item) { x.Marker = true },
			"a key with a 0": func(x *api.Item) { x.Key += "\x00" },
			"a long key":     func(x *api.Item) { x.Key += strings.Repeat("k", 24) },
		} {
			l := listed("a1 b2 c2 d1 e1")
			if spoil != nil {
				spoil(&l[at])
			}
			if got := Ordered(l); got != (spoil == nil) {
				t.Errorf("%s, at %d: %v", what, at, got)
			}
		}
	}
	marks := []api.Item{{Key: "a", Seq: 2, Marker: true}, {Key: "a", Seq: 1, Version: 1, Marker: true}}
	if !Ordered(marks) {
		t.Error("marks: false")
	}
	if Ordered([]api.Item{{}}) {
		t.Error("the zero item: true")
	}
}

// P6.2: without those of that Key and Seq.
func TestDrop(t *testing.T) {
	for _, c := range []struct {
		what, l, key string
		seq          int
		want         string
	}{
		{"the first one", "a1 b3 b1", "a", 1, "b3 b1"},
		{"one between", "a1 b3 b1", "b", 3, "a1 b1"},
		{"the last one", "a1 b3 b1", "b", 1, "a1 b3"},
		{"the only one", "a1", "a", 1, ""},
		{"of nothing", "", "a", 1, ""},
		{"a Key that isn't there", "a1 b3 b1", "c", 1, "a1 b3 b1"},
		{"the empty Key", "a1 b3 b1", "", 1, "a1 b3 b1"},
		{"a Key that goes on", "a1 b3 b1", "ab", 1, "a1 b3 b1"},
		{"a Seq that isn't there", "a1 b3 b1", "b", 2, "a1 b3 b1"},
		{"another Key's Seq", "a1 b3 b2", "a", 3, "a1 b3 b2"},
		{"Seq 0", "a1 b3 b1", "b", 0, "a1 b3 b1"},
		{"Seq below nought", "a1 b3 b1", "b", -3, "a1 b3 b1"},
		{"the greatest Seq", "a1 b3 b1", "b", math.MaxInt, "a1 b3 b1"},
		{"the least Seq", "a1 b3 b1", "b", math.MinInt, "a1 b3 b1"},
		{"2^32 more", "a1 b3 b1", "b", 1<<32 + 3, "a1 b3 b1"},
		{"all of several", "b3 a1 b3 c1 b3", "b", 3, "a1 c1"},
		{"all there are", "b3 b3", "b", 3, ""},
		{"the rest in its order", "c1 b1 a2 c3 b2", "a", 2, "c1 b1 c3 b2"},
	} {
		isList(t, c.what, Drop(listed(c.l), c.key, c.seq), listed(c.want))
	}
	isList(t, "of nil", Drop(nil, "a", 1), nil)
	isList(t, "of an empty list", Drop([]api.Item{}, "a", 1), nil)
}

// P6.2: raw items go by Key and Seq, too, whatever else they are.
func TestDropRaw(t *testing.T) {
	l := []api.Item{{}, {Key: "a", Seq: -1}, {Body: "b"}, {Key: "a", Seq: math.MinInt, Marker: true}, {Key: "a", Seq: -1, Version: 9}}
	isList(t, "the zero ones", Drop(l, "", 0), []api.Item{l[1], l[3], l[4]})
	isList(t, "below nought", Drop(l, "a", -1), []api.Item{l[0], l[2], l[3]})
	isList(t, "the least Seq", Drop(l, "a", math.MinInt), []api.Item{l[0], l[1], l[2], l[4]})
}

// P6.2: where one that comes stands.
func TestPut(t *testing.T) {
	for _, c := range []struct{ what, l, x, want string }{
		{"the first at all", "", "a1", "a1"},
		{"first, by its key", "b3 b1", "a1", "a1 b3 b1"},
		{"first, by its number", "b3 b1", "b4", "b4 b3 b1"},
		{"between keys", "a1 c1", "b1", "a1 b1 c1"},
		{"between numbers", "a5 a1", "a3", "a5 a3 a1"},
		{"the first of its key, between", "a2 c3", "b9", "a2 b9 c3"},
		{"the greatest of its key, between", "a9 b3 c9", "b4", "a9 b4 b3 c9"},
		{"the least of its key, between", "a9 b3 c9", "b2", "a9 b3 b2 c9"},
		{"last, by its key", "a1 b3 b1", "c9", "a1 b3 b1 c9"},
		{"last, by its number", "a1 b3 b2", "b1", "a1 b3 b2 b1"},
		{"ten ahead of nine", "a9 a1", "a10", "a10 a9 a1"},
		{"again, first", "a1 b3 b1", "a1", "a1 b3 b1"},
		{"again, between", "a1 b3 b1", "b3", "a1 b3 b1"},
		{"again, last", "a1 b3 b1", "b1", "a1 b3 b1"},
		{"again, the only one", "a1", "a1", "a1"},
		{"in place of several", "a1 b3 b3 c1", "b3", "a1 b3 c1"},
		{"in place of several that aren't in order", "b3 a1 b3 c1 b3", "b3", "a1 b3 c1"},
		{"ahead of the first one that it isn't behind", "a1 c1 a5 c5", "b1", "a1 b1 c1 a5 c5"},
		{"ahead of the first one, whatever follows", "c1 a1 c2 a2", "b1", "b1 c1 a1 c2 a2"},
		{"of numbers that rise, ahead of the first lower one", "b1 b5 b9", "b3", "b3 b1 b5 b9"},
		{"behind all that don't stand in order", "a1 a5 a3", "b1", "a1 a5 a3 b1"},
	} {
		x := listed(c.x)[0]
		isList(t, c.what, Put(listed(c.l), x), listed(c.want))
	}
	isList(t, "into nil", Put(nil, object("a", 1)), listed("a1"))
	isList(t, "into an empty list", Put([]api.Item{}, object("a", 1)), listed("a1"))
}

// P6.2: one that comes again is the new one, whole.
func TestPutAgain(t *testing.T) {
	l := listed("a1 b3 b1 c5")
	for at := range l {
		for _, x := range []api.Item{
			{Key: l[at].Key, Seq: l[at].Seq, ETag: tag, Body: "new"},
			{Key: l[at].Key, Seq: l[at].Seq, Version: l[at].Seq, Marker: true},
			{Key: l[at].Key, Seq: l[at].Seq},
		} {
			want := slices.Clone(l)
			want[at] = x
			isList(t, "again", Put(l, x), want)
		}
	}
}

// P6.2: items that may not be come as others do.
func TestPutRaw(t *testing.T) {
	l := listed("a2 b1")
	isList(t, "the zero item", Put(l, api.Item{}), append([]api.Item{{}}, l...))
	below := api.Item{Key: "a", Seq: -1}
	isList(t, "a number below nought stands behind those above", Put(l, below), []api.Item{l[0], below, l[1]})
	least := api.Item{Key: "a", Seq: math.MinInt}
	isList(t, "the least number", Put([]api.Item{l[0], below, l[1]}, least), []api.Item{l[0], below, least, l[1]})
	greatest := api.Item{Key: "a", Seq: math.MaxInt}
	isList(t, "the greatest number", Put(l, greatest), []api.Item{greatest, l[0], l[1]})
	nought := api.Item{Key: "a\x00", Seq: 5}
	isList(t, "a key with a 0", Put(l, nought), []api.Item{l[0], nought, l[1]})
	long := object(strings.Repeat("b", 70000), 1)
	isList(t, "a long key", Put(l, long), []api.Item{l[0], l[1], long})
}

// plainDrop and plainPut are P6.2 word by word.
func plainDrop(l []api.Item, key string, seq int) []api.Item {
	return slices.DeleteFunc(slices.Clone(l), func(x api.Item) bool { return x.Key == key && x.Seq == seq })
}

func plainPut(l []api.Item, x api.Item) []api.Item {
	rest := plainDrop(l, x.Key, x.Seq)
	for i, other := range rest {
		if ahead, behind := by(x, other) < 0, by(x, other) > 0; ahead || !behind {
			return slices.Concat(rest[:i], []api.Item{x}, rest[i:])
		}
	}
	return append(rest, x)
}

// some is one of few keys and numbers, so that many come again; its body says which time it came.
func some(r *rand.Rand, time int) api.Item {
	x := object([]string{"a", "a\x01", "ab", "b", "\xff"}[r.Intn(5)], 1+r.Intn(12))
	x.Body = strconv.Itoa(time)
	if r.Intn(4) == 0 {
		x = api.Item{Key: x.Key, Seq: x.Seq, Version: x.Seq, Marker: true}
	}
	return x
}

// P6.2, P6.1: lists in any order, by the promises' words.
func TestAnyLists(t *testing.T) {
	r := rand.New(rand.NewSource(61))
	for range 20000 {
		var l []api.Item
		for i := range r.Intn(10) {
			l = append(l, some(r, i))
		}
		x := some(r, 99)
		isList(t, "Put", Put(l, x), plainPut(l, x))
		isList(t, "Drop", Drop(l, x.Key, x.Seq), plainDrop(l, x.Key, x.Seq))
		isList(t, "Of", Of(l, x.Key), slices.DeleteFunc(slices.Clone(l), func(y api.Item) bool { return y.Key != x.Key }))
		if got, want := Ordered(l), slices.IsSortedFunc(l, by) && len(slices.CompactFunc(slices.Clone(l), func(a, b api.Item) bool { return by(a, b) == 0 })) == len(l); got != want {
			t.Errorf("Ordered(%s): %v", told(l), got)
		}
		if t.Failed() {
			return
		}
	}
}

// P6.3: the chapter's example: b's first, a, b's second.
func TestExampleInOrder(t *testing.T) {
	var l []api.Item
	for _, x := range listed("b1 a2 b3") {
		l = Put(l, x)
	}
	isList(t, "a, b's second, b's first", l, listed("a2 b3 b1"))
	if !Ordered(l) {
		t.Error("they don't stand in order")
	}
}

// P6.3: in whatever order items come, they stand in the one order.
func TestEachWayInOrder(t *testing.T) {
	want := listed("a9 a1 b5 b4 c1")
	var come func(l, left []api.Item)
	come = func(l, left []api.Item) {
		if !Ordered(l) {
			t.Fatalf("%s don't stand in order", told(l))
		}
		if len(left) == 0 {
			isList(t, "all of them", l, want)
		}
		for i := range left {
			come(Put(l, left[i]), slices.Delete(slices.Clone(left), i, i+1))
		}
	}
	come(nil, want)
}

// P6.3: items that come, come again, and go: always in order, and those that they are to be.
func TestComeAndGoInOrder(t *testing.T) {
	r := rand.New(rand.NewSource(63))
	type place struct {
		key string
		seq int
	}
	model := map[place]api.Item{}
	var l []api.Item
	for time := range 5000 {
		x := some(r, time)
		if r.Intn(3) > 0 {
			l = Put(l, x)
			model[place{x.Key, x.Seq}] = x
		} else {
			l = Drop(l, x.Key, x.Seq)
			delete(model, place{x.Key, x.Seq})
		}
		var want []api.Item
		for _, y := range model {
			want = append(want, y)
		}
		slices.SortFunc(want, by)
		isList(t, "behind "+strconv.Itoa(time), l, want)
		if !Ordered(l) || !Ordered(Of(l, "b")) {
			t.Errorf("behind %d they don't stand in order", time)
		}
		if t.Failed() {
			return
		}
	}
}

// What is handed in is as it was, its spare room too; what is answered is another list.
func TestHandedIn(t *testing.T) {
	for _, c := range []struct{ what, l string }{
		{"one", "b3"}, {"some", "a1 b3 b1 c5"}, {"of one key", "b9 b3 b1"}, {"not in order", "b1 b3 a5 b3"}, {"none of it", "a1 c1"}, {"none", ""},
	} {
		whole := append(listed(c.l), listed("x9 x8 x7")...)
		was := slices.Clone(whole)
		n := len(whole) - 3
		l := whole[:n]
		x := object("b", 3)
		x.Body = "new"
		answers := [][]api.Item{
			Put(l, x), Put(l, object("b", 2)), Put(l, object("0", 1)), Put(l, object("z", 1)),
			Drop(l, "b", 3), Drop(l, "none", 3), Drop(l, "b", 77), Of(l, "b"), Of(l, "a"), Of(l, "none"),
		}
		Ordered(l)
		isList(t, c.what+": handed in", whole, was)
		for _, got := range answers {
			// What is done to an answer, its spare room too, isn't to be seen in the list or in other answers.
			got = got[:cap(got)]
			for i := range got {
				got[i] = api.Item{Key: "spoilt", Seq: i}
			}
		}
		isList(t, c.what+": behind changes of what was answered", whole, was)
	}
}

// Nothing is kept: asked again, each call answers the same, whatever was done to its answer.
func TestAskedAgain(t *testing.T) {
	l := listed("a1 b3 b1 c5")
	for range 3 {
		for _, c := range []struct {
			what string
			got  []api.Item
			want string
		}{
			{"Put", Put(l, object("b", 2)), "a1 b3 b2 b1 c5"},
			{"Drop", Drop(l, "a", 1), "b3 b1 c5"},
			{"Drop of none", Drop(l, "a", 2), "a1 b3 b1 c5"},
			{"Of", Of(l, "b"), "b3 b1"},
		} {
			isList(t, c.what, c.got, listed(c.want))
			clear(c.got)
		}
	}
}

// A call hangs on its arguments alone, from any number of sides at once, of one list too.
func TestAtOnce(t *testing.T) {
	shared := append(listed("a1 b3 b1 c5"), listed("x9 x8")...)[:4]
	var all sync.WaitGroup
	for range 8 {
		all.Go(func() {
			for range 200 {
				if told(Put(shared, object("b", 2))) != "a1 b3 b2 b1 c5" || told(Drop(shared, "b", 1)) != "a1 b3 c5" || told(Of(shared, "b")) != "b3 b1" || !Ordered(shared) || !Right(shared[0]) || !Less(shared[0], shared[1]) {
					t.Error("went wrong")
				}
			}
		})
	}
	all.Wait()
}
