package digest

import (
	"fmt"
	"hash/fnv"
	"math"
	"math/big"
	"math/rand"
	"slices"
	"strings"
	"sync"
	"sync/atomic"
	"testing"
)

// plainly is P5.1's Sum word by word, with whole numbers that have no end, and modulo 2^64.
func plainly(s string) uint64 {
	n, _ := new(big.Int).SetString("14695981039346656037", 10)
	times, _ := new(big.Int).SetString("1099511628211", 10)
	round := new(big.Int).Lsh(big.NewInt(1), 64)
	for _, b := range []byte(s) {
		n.Xor(n, big.NewInt(int64(b)))
		n.Mul(n, times)
		n.Mod(n, round)
	}
	return n.Uint64()
}

// byLibrary is the sum that the library reckons.
func byLibrary(s string) uint64 {
	h := fnv.New64a()
	h.Write([]byte(s))
	return h.Sum64()
}

func randomText(r *rand.Rand, n int) string {
	b := make([]byte, n)
	r.Read(b)
	return string(b)
}

// samples are texts of all lengths about the edges, and some of thousands of bytes.
func samples() []string {
	r := rand.New(rand.NewSource(5))
	all := []string{"", "a", "\x00", "\x00\x00", "\xff", "\x7f", "\x80", "żółw", "\xff\xfe\xfd", "a\x00b", strings.Repeat("\x00", 300), strings.Repeat("\xff", 300)}
	for n := range 40 {
		all = append(all, randomText(r, n))
	}
	for _, n := range []int{208, 255, 256, 257, 1499, 1500, 1501, 4096, 9999, 70000} {
		all = append(all, randomText(r, n), strings.Repeat("a", n))
	}
	return all
}

// known are texts whose tags are written down elsewhere, or were found by the library's sum.
var known = []struct{ what, s, tag string }{
	{"the example", "a", "af63dc4c8601ec8c"},
	{"the empty text", "", "cbf29ce484222325"},
	{"another letter", "b", "af63df4c8601f1a5"},
	{"a nought", "\x00", "af63bd4c8601b7df"},
	{"some letters", "foobar", "85944171f73967e8"},
	{"a line", "chongo was here!\n", "46810940eff5f915"},
	{"the highest sign 0", "ba", "08a63307b54dd00c"},
	{"the two highest signs 0", "baa", "0039231913392937"},
	{"the three highest signs 0", "oqaa", "000ab9b467538b8f"},
	{"the four highest signs 0", "oqda", "0000c5b4674b4b6e"},
	{"all signs 0", "\xd5\x6b\xb9\x53\x42\x87\x08\x36", "0000000000000000"},
}

// P5.1: sums and tags that are written down.
func TestKnown(t *testing.T) {
	for _, c := range known {
		if got := Tag(c.s); got != c.tag {
			t.Errorf("%s: Tag(%q): %q, want %q", c.what, c.s, got, c.tag)
		}
		if got := fmt.Sprintf("%016x", Sum(c.s)); got != c.tag {
			t.Errorf("%s: Sum(%q): %s, want %s", c.what, c.s, got, c.tag)
		}
	}
	if got := Sum(""); got != 14695981039346656037 {
		t.Errorf("Sum of the empty text: %d", got)
	}
}

// P5.1: each text of one byte, and of two.
func TestSumShort(t *testing.T) {
	for a := range 256 {
		one := string([]byte{byte(a)})
		if got, want := Sum(one), plainly(one); got != want {
			t.Errorf("Sum(%q): %d, want %d", one, got, want)
		}
		for b := range 256 {
			two := string([]byte{byte(a), byte(b)})
			if got, want := Sum(two), byLibrary(two); got != want {
				t.Errorf("Sum(%q): %d, want %d", two, got, want)
			}
		}
	}
}

// P5.1: against the chapter's words, and against the library's own, texts of thousands of bytes among them.
func TestSumMany(t *testing.T) {
	for _, s := range samples() {
		got := Sum(s)
		if want := plainly(s); got != want {
			t.Errorf("Sum(%d bytes): %d, want %d", len(s), got, want)
		}
		if want := byLibrary(s); got != want {
			t.Errorf("Sum(%d bytes): %d, the library's is %d", len(s), got, want)
		}
	}
}

// P5.1: bytes, not runes, are what is gone by, also where they are no runes at all.
func TestSumByBytes(t *testing.T) {
	for _, s := range []string{"ż", "\xc5", "\xbc", "\xff", "\u2013", "\U0001f40c", "\xf0\x9f\x90", "a\xffb"} {
		if got, want := Sum(s), plainly(s); got != want {
			t.Errorf("Sum(%q): %d, want %d", s, got, want)
		}
	}
	if Tag("\xff") == Tag("\ufffd") || Tag("\xff") == Tag("\xfe") {
		t.Error("bytes that are no runes are taken for one another")
	}
}

// P5.1: a tag is its sum, in sixteen signs, small letters, the highest first.
func TestTagIsItsSum(t *testing.T) {
	for _, s := range samples() {
		got := Tag(s)
		if want := fmt.Sprintf("%016x", plainly(s)); got != want {
			t.Errorf("Tag(%d bytes): %q, want %q", len(s), got, want)
		}
		if len(got) != 16 || strings.Trim(got, "0123456789abcdef") != "" {
			t.Errorf("Tag(%d bytes): %q isn't sixteen signs of base 16", len(s), got)
		}
	}
}

// P5.1: numbers as signs, each sign at each place, and numbers whose highest signs are 0.
func TestWritten(t *testing.T) {
	numbers := []uint64{0, 1, 9, 10, 15, 16, 0xabcdef, 0x0123456789abcdef, 0xfedcba9876543210, math.MaxInt64, 1 << 63, math.MaxUint64}
	for place := range 16 {
		for sign := range uint64(16) {
			numbers = append(numbers, sign<<(4*place))
		}
	}
	for _, n := range numbers {
		if got, want := written(n), fmt.Sprintf("%016x", n); got != want {
			t.Errorf("written(%d): %q, want %q", n, got, want)
		}
	}
}

// P5.1: joined tags that are written down: none, one, ten and more, empty ones.
func TestJoinedKnown(t *testing.T) {
	for _, c := range []struct {
		what string
		tags []string
		want string
	}{
		{"none, nil", nil, "cbf29ce484222325-0"},
		{"none, empty", []string{}, "cbf29ce484222325-0"},
		{"one", []string{"a"}, "af63dc4c8601ec8c-1"},
		{"an empty one", []string{""}, "cbf29ce484222325-1"},
		{"two empty ones", []string{"", ""}, "cbf29ce484222325-2"},
		{"an empty one first", []string{"", "a"}, "af63dc4c8601ec8c-2"},
		{"an empty one last", []string{"a", ""}, "af63dc4c8601ec8c-2"},
		{"an empty one between", []string{"foo", "", "bar"}, "85944171f73967e8-3"},
		{"six", []string{"f", "o", "o", "b", "a", "r"}, "85944171f73967e8-6"},
		{"the highest signs 0", []string{"o", "qd", "a"}, "0000c5b4674b4b6e-3"},
		{"nine empty ones", make([]string, 9), "cbf29ce484222325-9"},
		{"ten empty ones", make([]string, 10), "cbf29ce484222325-10"},
		{"twelve empty ones", make([]string, 12), "cbf29ce484222325-12"},
		{"a hundred empty ones", make([]string, 100), "cbf29ce484222325-100"},
		{"many empty ones", make([]string, 123456), "cbf29ce484222325-123456"},
	} {
		if got := Joined(c.tags); got != c.want {
			t.Errorf("%s: Joined: %q, want %q", c.what, got, c.want)
		}
	}
}

// tagsOf are the tags of n parts that aren't alike.
func tagsOf(n int) []string {
	var tags []string
	for i := range n {
		tags = append(tags, Tag(fmt.Sprint("part ", i)))
	}
	return tags
}

// P5.1: the tags themselves go one behind the other, not what their signs tell, and nothing comes between them.
func TestJoinedOfTags(t *testing.T) {
	for _, n := range []int{0, 1, 2, 3, 6, 9, 10, 11, 12, 99, 100, 101, 1000} {
		tags := tagsOf(n)
		want := fmt.Sprintf("%016x-%d", plainly(strings.Join(tags, "")), n)
		if got := Joined(tags); got != want {
			t.Errorf("Joined of %d: %q, want %q", n, got, want)
		}
	}
}

// P5.1: any texts may be handed in as tags.
func TestJoinedOfAnyTexts(t *testing.T) {
	all := samples()
	for n := range all {
		want := fmt.Sprintf("%016x-%d", byLibrary(strings.Join(all[:n], "")), n)
		if got := Joined(all[:n]); got != want {
			t.Errorf("Joined of %d: %q, want %q", n, got, want)
		}
	}
	for _, tags := range [][]string{{"a-1"}, {"-"}, {"-", "-"}, {"\x00", "\xff"}, {"A", "z"}} {
		want := fmt.Sprintf("%016x-%d", plainly(strings.Join(tags, "")), len(tags))
		if got := Joined(tags); got != want {
			t.Errorf("Joined(%q): %q, want %q", tags, got, want)
		}
	}
}

// P5.1: where one text ends and the next begins isn't told, but how many there are is.
func TestJoinedCuts(t *testing.T) {
	if Joined([]string{"ab", "c"}) != Joined([]string{"a", "bc"}) {
		t.Error("the same bytes in as many texts, and another answer")
	}
	if Joined([]string{"ab", "c"}) == Joined([]string{"abc"}) || Joined([]string{"abc"}) == Joined([]string{"abc", ""}) {
		t.Error("more texts, and the same answer")
	}
}

// P5.1: the same tags in another order are other bytes, and told as that.
func TestJoinedOrder(t *testing.T) {
	tags := tagsOf(4)
	seen := map[string]bool{}
	for a := range 4 {
		for b := range 4 {
			for c := range 4 {
				d := 6 - a - b - c
				if a == b || a == c || b == c || d < 0 || d > 3 {
					continue
				}
				turned := []string{tags[a], tags[b], tags[c], tags[d]}
				got := Joined(turned)
				if want := fmt.Sprintf("%016x-4", plainly(strings.Join(turned, ""))); got != want {
					t.Errorf("order %d %d %d %d: %q, want %q", a, b, c, d, got, want)
				}
				seen[got] = true
			}
		}
	}
	if len(seen) != 24 {
		t.Errorf("24 orders have %d answers", len(seen))
	}
}

// with is s with that byte at that place.
func with(s string, at int, b byte) string {
	return s[:at] + string([]byte{b}) + s[at+1:]
}

// P5.2: each byte there is, at each place of texts of up to 24 bytes: all tags are others.
func TestOneOtherByteShort(t *testing.T) {
	r := rand.New(rand.NewSource(52))
	for n := 1; n <= 24; n++ {
		for _, s := range []string{strings.Repeat("\x00", n), strings.Repeat("a", n), randomText(r, n)} {
			for at := range n {
				seen := map[string]int{}
				for b := range 256 {
					tag := Tag(with(s, at, byte(b)))
					if other, is := seen[tag]; is {
						t.Fatalf("%q: bytes %d and %d at %d have one tag", s, other, b, at)
					}
					seen[tag] = b
				}
			}
		}
	}
}

// P5.2: the first byte of thousands, the last, and some between, each way that it may be another.
func TestOneOtherByteLong(t *testing.T) {
	r := rand.New(rand.NewSource(53))
	for _, n := range []int{208, 1500, 9999} {
		s := randomText(r, n)
		tag, sum := Tag(s), Sum(s)
		for _, at := range []int{0, 1, n / 2, r.Intn(n), n - 2, n - 1} {
			for x := 1; x < 256; x++ {
				other := with(s, at, s[at]^byte(x))
				if Tag(other) == tag || Sum(other) == sum {
					t.Fatalf("%d bytes: byte %d by %d, and the same tag", n, at, x)
				}
			}
		}
	}
}

// P5.2: whatever the number on its way is, other bytes make it others, and others stay others by the same byte: so nothing that comes behind one other byte can make up for it.
func TestNoStepForgets(t *testing.T) {
	if odd := uint64(factor) % 2; odd != 1 {
		t.Fatal("an even factor drops the highest bit")
	}
	back := uint64(1) // what undoes the factor, modulo 2^64
	for range 6 {
		back *= 2 - factor*back
	}
	r := rand.New(rand.NewSource(54))
	for range 2000 {
		before, b := r.Uint64(), byte(r.Intn(256))
		var n sum
		n.number.Store(before)
		n.take(string([]byte{b}))
		if n.number.Load()*back^uint64(b) != before {
			t.Fatalf("%d by %d can't be undone", before, b)
		}
	}
}

// P5.2: one other byte in one of the tags makes another joined one.
func TestOneOtherByteJoined(t *testing.T) {
	tags := tagsOf(6)
	want := Joined(tags)
	for i, tag := range tags {
		for at := range tag {
			for x := 1; x < 256; x++ {
				others := slices.Clone(tags)
				others[i] = with(tag, at, tag[at]^byte(x))
				if Joined(others) == want {
					t.Fatalf("tag %d, byte %d by %d, and the same answer", i, at, x)
				}
			}
		}
	}
}

// P5.2: asked again, in another order, with other calls between, a tag is the same.
func TestAskedAgain(t *testing.T) {
	all := samples()
	first := map[string]string{}
	for _, s := range all {
		first[s] = Tag(s)
	}
	joined := Joined(all)
	r := rand.New(rand.NewSource(55))
	for range 5 {
		r.Shuffle(len(all), func(i, j int) { all[i], all[j] = all[j], all[i] })
		for _, s := range all {
			Joined([]string{s, "between"})
			Sum("between")
			if got := Tag(s); got != first[s] || got != written(Sum(s)) {
				t.Errorf("Tag(%d bytes): %q, and %q ahead of it", len(s), got, first[s])
			}
		}
	}
	if got := Joined(samples()); got != joined {
		t.Errorf("Joined: %q, and %q ahead of it", got, joined)
	}
}

// P5.2: asked from many sides at once, of the same texts and of others.
func TestManySides(t *testing.T) {
	all := samples()
	want := make([]uint64, len(all))
	for i, s := range all {
		want[i] = byLibrary(s)
	}
	joined := fmt.Sprintf("%016x-%d", byLibrary(strings.Join(all, "")), len(all))
	var sides sync.WaitGroup
	var wrong atomic.Int64
	for side := range 16 {
		sides.Go(func() {
			for turn := range all {
				i := (turn*7 + side) % len(all)
				if Sum(all[i]) != want[i] || Tag(all[i]) != fmt.Sprintf("%016x", want[i]) {
					wrong.Add(1)
				}
			}
			if Joined(all) != joined {
				wrong.Add(1)
			}
		})
	}
	sides.Wait()
	if wrong.Load() != 0 {
		t.Errorf("%d answers were wrong", wrong.Load())
	}
}

// The way: a number on its way goes on where it was, however a text is cut, and is whole behind each byte.
func TestNumberOnItsWay(t *testing.T) {
	s := randomText(rand.New(rand.NewSource(56)), 300)
	for cut := range len(s) + 1 {
		var n sum
		n.number.Store(beginning)
		n.take(s[:cut])
		if got, want := n.number.Load(), byLibrary(s[:cut]); got != want {
			t.Fatalf("behind %d bytes: %d, want %d", cut, got, want)
		}
		n.take("")
		n.take(s[cut:])
		if got, want := n.number.Load(), byLibrary(s); got != want {
			t.Fatalf("cut at %d: %d, want %d", cut, got, want)
		}
	}
}

// The way: whoever looks at a number on its way sees one that it has been, never a half of two.
func TestNumberIsWhole(t *testing.T) {
	s := randomText(rand.New(rand.NewSource(57)), 20000)
	been := map[uint64]bool{}
	var n sum
	n.number.Store(beginning)
	been[n.number.Load()] = true
	for i := range len(s) {
		n.take(s[i : i+1])
		been[n.number.Load()] = true
	}
	n.number.Store(beginning)
	var looking sync.WaitGroup
	done := make(chan struct{})
	for range 4 {
		looking.Go(func() {
			for {
				if seen := n.number.Load(); !been[seen] {
					t.Errorf("%d was seen, which it never was", seen)
					return
				}
				select {
				case <-done:
					return
				default:
				}
			}
		})
	}
	n.take(s)
	close(done)
	looking.Wait()
	if n.number.Load() != byLibrary(s) {
		t.Error("looked at, the number has changed")
	}
}

// What is handed in isn't changed, its spare room neither.
func TestTagsHandedInStay(t *testing.T) {
	room := append(tagsOf(5), "room", "more room")
	then := slices.Clone(room)
	want := fmt.Sprintf("%016x-5", byLibrary(strings.Join(then[:5], "")))
	if got := Joined(room[:5]); got != want {
		t.Errorf("Joined: %q, want %q", got, want)
	}
	if !slices.Equal(room, then) {
		t.Error("what was handed in has changed")
	}
	if got := Joined(slices.Clone(room[:5])); got != want {
		t.Errorf("Joined without spare room: %q, want %q", got, want)
	}
}

func BenchmarkTagOfBody(b *testing.B) {
	s := strings.Repeat("x", 1500)
	for b.Loop() {
		Tag(s)
	}
}
