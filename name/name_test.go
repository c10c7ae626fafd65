package name

import (
	"cmp"
	"encoding/binary"
	"math"
	"math/rand"
	"slices"
	"strings"
	"sync"
	"testing"

	"archivist/api"
)

// P4.1: names that may be, and others.
func TestBucket(t *testing.T) {
	for _, c := range []struct {
		what, s string
		want    bool
	}{
		{"the example", "my-box1", true},
		{"three signs", "box", true},
		{"as many as there may be", strings.Repeat("a", api.MaxName), true},
		{"three digits", "012", true},
		{"the ends of the letters and digits", "az09", true},
		{"digits first and last", "0a-b9", true},
		{"a dash between", "a-b", true},
		{"dashes side by side", "a--b", true},
		{"dashes all between", "a----------b", true},
		{"empty", "", false},
		{"one sign", "a", false},
		{"two signs", "ab", false},
		{"one more than there may be", strings.Repeat("a", api.MaxName+1), false},
		{"far more", strings.Repeat("a", 70000), false},
		{"a dash first", "-box", false},
		{"a dash last", "box-", false},
		{"a dash first, of three", "-ab", false},
		{"a dash last, of three", "ab-", false},
		{"a dash last, of as many as there may be", "abcdefghijk-", false},
		{"dashes first and last", "-b-", false},
		{"dashes alone", "---", false},
		{"a great letter first", "Box", false},
		{"a great letter last", "boX", false},
		{"a dot", "a.b", false},
		{"a slash", "a/b", false},
		{"a line below", "a_b", false},
		{"a blank", "a b", false},
		{"a line's end", "box\n", false},
		{"a nought", "a\x00b", false},
		{"a nought last", "box\x00", false},
		{"another alphabet's letter", "żółw", false},
		{"another alphabet's digit", "ab\u0663", false},
		{"another dash", "a\u2013b", false},
		{"bytes that are no runes", "a\xffb", false},
	} {
		if got := Bucket(c.s); got != c.want {
			t.Errorf("%s: Bucket(%q): %v", c.what, c.s, got)
		}
	}
}

// P4.1: each byte there is, first, between, and last in a name.
func TestBucketEachByte(t *testing.T) {
	for b := range 256 {
		sign := string([]byte{byte(b)})
		inside := strings.Contains("abcdefghijklmnopqrstuvwxyz0123456789-", sign)
		atEnd := inside && sign != "-"
		for s, want := range map[string]bool{
			"x" + sign + "x":         inside,
			sign + "xx":              atEnd,
			"xx" + sign:              atEnd,
			"xxxxx" + sign + "xxxxx": inside,
		} {
			if got := Bucket(s); got != want {
				t.Errorf("Bucket(%q): %v", s, got)
			}
		}
	}
}

// P4.1: names of each length, of one sign alone.
func TestBucketEachLength(t *testing.T) {
	for n := range 300 {
		want := 3 <= n && n <= 12
		for _, sign := range []string{"a", "z", "0", "9"} {
			if got := Bucket(strings.Repeat(sign, n)); got != want {
				t.Errorf("%d times %q: %v", n, sign, got)
			}
		}
	}
}

// P4.1: keys that may be, and others.
func TestKey(t *testing.T) {
	for _, c := range []struct {
		what, s string
		want    bool
	}{
		{"one byte", "a", true},
		{"a path", "a/b", true},
		{"as many bytes as there may be", "abcdefghijklmnopqrstuvwx", true},
		{"blanks and signs of all kinds", " A-_.\n\t~", true},
		{"just above 0", "\x01", true},
		{"the digit 0", "0", true},
		{"bytes that are no runes", "\xff\xfe\x80", true},
		{"runes of 24 bytes", strings.Repeat("ż", 12), true},
		{"empty", "", false},
		{"one more than there may be", "abcdefghijklmnopqrstuvwxy", false},
		{"runes of 26 bytes", strings.Repeat("ż", 13), false},
		{"far more", strings.Repeat("a", 70000), false},
		{"a 0 alone", "\x00", false},
		{"a 0 first", "\x00a", false},
		{"a 0 between", "a\x00b", false},
		{"a 0 last", "a\x00", false},
		{"a 0 last, of as many as there may be", "abcdefghijklmnopqrstuvw\x00", false},
	} {
		if got := Key(c.s); got != c.want {
			t.Errorf("%s: Key(%q): %v", c.what, c.s, got)
		}
	}
}

// P4.1: keys of each length; none of them, once a 0 stands anywhere in it.
func TestKeyEachLength(t *testing.T) {
	for n := range 300 {
		s := strings.Repeat("\xff", n)
		if got, want := Key(s), 1 <= n && n <= 24; got != want {
			t.Errorf("%d bytes: %v", n, got)
		}
		for at := range n {
			if Key(s[:at] + "\x00" + s[at+1:]) {
				t.Errorf("%d bytes with a 0 at %d: true", n, at)
			}
		}
	}
	for b := range 256 {
		if got, want := Key(string([]byte{byte(b)})), b != 0; got != want {
			t.Errorf("the byte %d: %v", b, got)
		}
	}
}

// P4.1: what a text begins with.
func TestBegins(t *testing.T) {
	long := strings.Repeat("l", 70000)
	for _, c := range []struct {
		what, s, with string
		want          bool
	}{
		{"a beginning", "abc", "ab", true},
		{"its first byte", "abc", "a", true},
		{"the empty one", "abc", "", true},
		{"itself", "abc", "abc", true},
		{"the empty one of itself", "", "", true},
		{"noughts", "\x00\x00a", "\x00", true},
		{"half a rune", "ż", "\xc5", true},
		{"bytes that are no runes", "\xff\xfea", "\xff\xfe", true},
		{"a long one", long + "z", long, true},
		{"one that goes on", "ab", "abc", false},
		{"something of the empty one", "", "a", false},
		{"another", "abc", "b", false},
		{"another at its end", "abc", "abd", false},
		{"another at its beginning", "abc", "bbc", false},
		{"its end", "abc", "bc", false},
		{"a greater letter", "abc", "A", false},
		{"a 0 more", "ab", "ab\x00", false},
		{"a long one, another at its end", long + "z", long + "y", false},
	} {
		if got := Begins(c.s, c.with); got != c.want {
			t.Errorf("%s: %v", c.what, got)
		}
	}
}

// places are numbers and the eight bytes that tell them.
var places = []struct {
	seq  int
	want string
}{
	{0, "\xff\xff\xff\xff\xff\xff\xff\xff"},
	{1, "\xff\xff\xff\xff\xff\xff\xff\xfe"},
	{2, "\xff\xff\xff\xff\xff\xff\xff\xfd"},
	{255, "\xff\xff\xff\xff\xff\xff\xff\x00"},
	{256, "\xff\xff\xff\xff\xff\xff\xfe\xff"},
	{65535, "\xff\xff\xff\xff\xff\xff\x00\x00"},
	{1<<31 - 1, "\xff\xff\xff\xff\x80\x00\x00\x00"},
	{1 << 31, "\xff\xff\xff\xff\x7f\xff\xff\xff"},
	{1<<32 - 1, "\xff\xff\xff\xff\x00\x00\x00\x00"},
	{1 << 32, "\xff\xff\xff\xfe\xff\xff\xff\xff"},
	{0x0123456789abcdef, "\xfe\xdc\xba\x98\x76\x54\x32\x10"},
	{math.MaxInt - 1, "\x80\x00\x00\x00\x00\x00\x00\x01"},
	{math.MaxInt, "\x80\x00\x00\x00\x00\x00\x00\x00"},
	{-1, "\x00\x00\x00\x00\x00\x00\x00\x00"},
	{-2, "\x00\x00\x00\x00\x00\x00\x00\x01"},
	{-256, "\x00\x00\x00\x00\x00\x00\x00\xff"},
	{-257, "\x00\x00\x00\x00\x00\x00\x01\x00"},
	{-1 << 31, "\x00\x00\x00\x00\x7f\xff\xff\xff"},
	{math.MinInt + 1, "\x7f\xff\xff\xff\xff\xff\xff\xfe"},
	{math.MinInt, "\x7f\xff\xff\xff\xff\xff\xff\xff"},
}

// P4.1: the key as it is, a 0, and the number's turned bits; also of keys that may not be.
func TestIndex(t *testing.T) {
	keys := []string{"a", "a/b", "żółw", "\xff\x01", "", "\x00", "a\x00", "\x00a", strings.Repeat("k", 24), strings.Repeat("k", 25), strings.Repeat("k", 70000)}
	for _, key := range keys {
		for _, c := range places {
			if got := Index(key, c.seq); got != key+"\x00"+c.want {
				t.Errorf("Index of a key of %d bytes, %d: ends in %q, want %q", len(key), c.seq, got[max(0, len(got)-9):], "\x00"+c.want)
			}
		}
	}
}

// P4.1: each single bit of the number, and its neighbours, against the library's own.
func TestIndexEachBit(t *testing.T) {
	for bit := range 64 {
		for _, seq := range []int{1 << bit, 1<<bit - 1, 1<<bit + 1, -1 << bit, ^(1 << bit)} {
			want := binary.BigEndian.AppendUint64([]byte("ab\x00"), math.MaxUint64-uint64(seq))
			if got := Index("ab", seq); got != string(want) {
				t.Errorf("Index(ab, %d): %q, want %q", seq, got, want)
			}
		}
	}
}

func isBack(t *testing.T, key string, seq int) {
	t.Helper()
	gotKey, gotSeq, is := Back(Index(key, seq))
	if gotKey != key || gotSeq != seq || !is {
		t.Errorf("Back(Index(%q, %d)): %q, %d, %v", key, seq, gotKey, gotSeq, is)
	}
}

func isNoPlace(t *testing.T, what, s string) {
	t.Helper()
	if key, seq, is := Back(s); key != "" || seq != 0 || is {
		t.Errorf("%s: Back(%q): %q, %d, %v; want empty, 0 and false", what, s, key, seq, is)
	}
}

// P4.1: each place of a key that may be is read back.
func TestBack(t *testing.T) {
	r := rand.New(rand.NewSource(41))
	keys := []string{"a", "ab", "a/b", "\x01", "\xff", "żółw", strings.Repeat("k", 23), strings.Repeat("k", 24), strings.Repeat("\xff", 24)}
	for n := 1; n <= api.MaxKey; n++ {
		keys = append(keys, randomKey(r, n))
	}
	for _, key := range keys {
		for _, c := range places {
			isBack(t, key, c.seq)
		}
		for range 100 {
			isBack(t, key, int(r.Uint64()))
		}
		for bit := range 64 {
			isBack(t, key, 1<<bit)
			isBack(t, key, ^(1 << bit))
		}
	}
}

// P4.1: texts that are no place.
func TestBackNoPlace(t *testing.T) {
	number := "\xff\xff\xff\xff\xff\xff\xff\xfe"
	for _, c := range []struct{ what, s string }{
		{"empty", ""},
		{"a key alone", "ab"},
		{"a key of nine bytes alone", "abcdefghi"},
		{"a key of ten bytes alone", "abcdefghij"},
		{"a key and a 0", "ab\x00"},
		{"eight bytes", number},
		{"nine bytes, the 0 first: the empty key", "\x00" + number},
		{"nine bytes, none of them 0", "a" + number},
		{"nine noughts", strings.Repeat("\x00", 9)},
		{"ten noughts: a key with a 0", strings.Repeat("\x00", 10)},
		{"noughts", strings.Repeat("\x00", 33)},
		{"another byte in the 0's place", "a\x01" + number},
		{"the digit 0 in the 0's place", "a0" + number},
		{"no 0 at all", "ab" + number},
		{"the 0 a byte too early", "a\x00b" + number},
		{"the 0 a byte too late", "ab" + "\x00" + number[1:]},
		{"a byte less", "a\x00" + number[1:]},
		{"a byte more", "a\x00" + number + "\xff"},
		{"a key with a 0 last", "a\x00\x00" + number},
		{"a key with a 0 first", "\x00a\x00" + number},
		{"a key with a 0 between", "a\x00b\x00" + number},
		{"a place as a key", "a\x00" + number + "\x00" + number},
		{"a key of 25 bytes", strings.Repeat("k", 25) + "\x00" + number},
		{"a key of 70000 bytes", strings.Repeat("k", 70000) + "\x00" + number},
	} {
		isNoPlace(t, c.what, c.s)
	}
	whole := Index("ab", 7)
	for n := range len(whole) {
		isNoPlace(t, "a place's beginning", whole[:n])
	}
	isNoPlace(t, "a place's end", whole[2:])
}

// P4.1: whatever bytes there are: what is read back is whose place they are, and what isn't read back is no place of a key that may be.
func TestBackAny(t *testing.T) {
	r := rand.New(rand.NewSource(42))
	read := 0
	for range 200000 {
		b := make([]byte, r.Intn(40))
		for i := range b {
			b[i] = byte(r.Intn(3)) // few kinds of bytes, so that many are 0
		}
		s := string(b)
		key, seq, is := Back(s)
		if is {
			read++
		}
		if is && (Index(key, seq) != s || !Key(key)) {
			t.Fatalf("Back(%q): %q, %d", s, key, seq)
		}
		if !is && len(s) >= 9 && s[len(s)-9] == 0 && Key(s[:len(s)-9]) {
			t.Fatalf("Back(%q): false", s)
		}
		if !is && (key != "" || seq != 0) {
			t.Fatalf("Back(%q): %q, %d beside false", s, key, seq)
		}
	}
	if read == 0 {
		t.Error("none of the texts was a place")
	}
}

// P4.1: keys just below, at, and above each border.
func TestGrove(t *testing.T) {
	ends := strings.Repeat("\xff", 24)
	for _, c := range []struct {
		key  string
		want int
	}{
		{"", 0}, {"\x00", 0}, {"\x01", 0}, {"0", 0}, {"9", 0}, {"G", 0}, {"Z", 0}, {"a", 0}, {"f", 0}, {"fz", 0}, {"f" + ends, 0},
		{"g", 1}, {"g\x00", 1}, {"g\x01", 1}, {"ga", 1}, {"h", 1}, {"m", 1}, {"mz", 1}, {"m" + ends, 1},
		{"n", 2}, {"n\x00", 2}, {"n\x01", 2}, {"na", 2}, {"o", 2}, {"s", 2}, {"sz", 2}, {"s" + ends, 2},
		{"t", 3}, {"t\x00", 3}, {"t\x01", 3}, {"ta", 3}, {"u", 3}, {"z", 3}, {"~", 3}, {"żółw", 3}, {"\xff", 3}, {ends, 3},
	} {
		if got := Grove(c.key); got != c.want {
			t.Errorf("Grove(%q): %d, want %d", c.key, got, c.want)
		}
	}
}

// P4.1: each first byte that a key may have, whatever stands behind it.
func TestGroveEachByte(t *testing.T) {
	for b := range 256 {
		want := 0
		for _, border := range []int{'g', 'n', 't'} {
			if b >= border {
				want++
			}
		}
		for _, behind := range []string{"", "\x00", "a", "g", "n", "t", "\xff"} {
			key := string([]byte{byte(b)}) + behind
			if got := Grove(key); got != want {
				t.Errorf("Grove(%q): %d, want %d", key, got, want)
			}
		}
	}
}

// place is a key and a number, as they were.
type place struct {
	key string
	seq int
}

// by is how places are to stand: by their keys, the greater number first.
func by(a, b place) int {
	return cmp.Or(strings.Compare(a.key, b.key), cmp.Compare(b.seq, a.seq))
}

func randomKey(r *rand.Rand, n int) string {
	b := make([]byte, n)
	for i := range b {
		b[i] = byte(1 + r.Intn(255))
	}
	return string(b)
}

func inOrder(t *testing.T, all []place) {
	t.Helper()
	for _, a := range all {
		for _, b := range all {
			if got, want := strings.Compare(Index(a.key, a.seq), Index(b.key, b.seq)), by(a, b); got != want {
				t.Fatalf("%q, %d and %q, %d are compared as %d, want %d", a.key, a.seq, b.key, b.seq, got, want)
			}
		}
	}
}

// P4.2: the chapter's example.
func TestExampleInOrder(t *testing.T) {
	if Index("a", 2) >= Index("a", 1) {
		t.Error("a's second one doesn't stand ahead of a's first one")
	}
}

// P4.2: keys that go on from one another, with numbers whose bytes are as low and as high as they may be.
func TestInOrder(t *testing.T) {
	var all []place
	for _, key := range []string{"\x01", "\x01\x01", "a", "a\x01", "a\x01\x01", "aa", "ab", "a\xff", "b", "\xff", "\xff\xff", strings.Repeat("a", 23), strings.Repeat("a", 24), strings.Repeat("\xff", 24)} {
		for _, seq := range []int{0, 1, 2, 254, 255, 256, 257, 65535, 65536, 1<<31 - 1, 1 << 31, 1<<32 - 1, 1 << 32, 1 << 62, math.MaxInt - 1, math.MaxInt} {
			all = append(all, place{key, seq})
		}
	}
	inOrder(t, all)
}

// P4.2: many places, of keys that are like one another.
func TestManyInOrder(t *testing.T) {
	r := rand.New(rand.NewSource(43))
	var all []place
	for range 600 {
		key := strings.Repeat("k", r.Intn(4)) + randomKey(r, 1+r.Intn(2))
		all = append(all, place{key, int(r.Uint64() >> (1 + r.Intn(63)))})
	}
	inOrder(t, all)
}

// P4.2: places that are sorted as texts come back by their keys, the greater number first.
func TestSortedComeBack(t *testing.T) {
	var texts []string
	for _, p := range []place{{"b", 1}, {"a", 2}, {"b", 3}, {"a", 10}, {"ab", 300}, {"a", 256}, {"ab", 5}} {
		texts = append(texts, Index(p.key, p.seq))
	}
	slices.Sort(texts)
	var got []place
	for _, s := range texts {
		key, seq, _ := Back(s)
		got = append(got, place{key, seq})
	}
	want := []place{{"a", 256}, {"a", 10}, {"a", 2}, {"ab", 300}, {"ab", 5}, {"b", 3}, {"b", 1}}
	if !slices.Equal(got, want) {
		t.Errorf("%v, want %v", got, want)
	}
}

// P4.2: keys come first whatever the numbers' signs; numbers below nought, too, stand the greater first, ahead of those from nought on, since all their bits are turned, the highest too.
func TestBelowNoughtInOrder(t *testing.T) {
	below := []int{-1, -2, -255, -256, -257, -1 << 31, -1 << 32, math.MinInt + 1, math.MinInt}
	var all []place
	for _, key := range []string{"\x01", "a", "a\x01", "aa", "b"} {
		for _, seq := range below {
			all = append(all, place{key, seq})
		}
	}
	inOrder(t, all)
	for _, seq := range below {
		for _, other := range []int{0, 1, math.MaxInt} {
			if Index("a", seq) >= Index("a", other) {
				t.Errorf("%d doesn't stand ahead of %d", seq, other)
			}
			if Index("a", other) >= Index("a\x01", seq) || Index("a", seq) >= Index("a\x01", other) {
				t.Errorf("%d and %d: the keys don't come first", seq, other)
			}
		}
	}
}

// A call hangs on its arguments alone, from any number of sides at once.
func TestAtOnce(t *testing.T) {
	var all sync.WaitGroup
	for side := range 8 {
		all.Go(func() {
			for seq := range 200 {
				key, n, is := Back(Index("ab", seq-side))
				if key != "ab" || n != seq-side || !is || !Bucket("my-box1") || !Key("a/b") || Grove("g") != 1 || !Begins("abc", "ab") {
					t.Errorf("side %d, %d: went wrong", side, seq)
				}
			}
		})
	}
	all.Wait()
}
