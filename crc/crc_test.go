package crc

import (
	"hash/crc32"
	"math/rand"
	"slices"
	"strings"
	"sync"
	"sync/atomic"
	"testing"
)

// plainly is P2.1 word by word, without a table.
func plainly(s string) uint32 {
	sum := uint32(0xffffffff)
	for _, b := range []byte(s) {
		sum ^= uint32(b)
		for range 8 {
			if sum&1 == 1 {
				sum = sum>>1 ^ 0x82f63b78
			} else {
				sum >>= 1
			}
		}
	}
	return sum ^ 0xffffffff
}

func randomText(r *rand.Rand, n int) string {
	b := make([]byte, n)
	r.Read(b)
	return string(b)
}

// samples are texts of all lengths about the edges, and some longer ones.
func samples() []string {
	r := rand.New(rand.NewSource(2))
	all := []string{"", "123456789", "\x00", "\xff", "żółw", "\xff\xfe\xfd", strings.Repeat("\x00", 256), strings.Repeat("\xff", 256)}
	for n := range 40 {
		all = append(all, randomText(r, n))
	}
	for _, n := range []int{207, 208, 255, 256, 257, 1500, 70000} {
		all = append(all, randomText(r, n))
	}
	return all
}

// P2.1: sums that are written down elsewhere.
func TestOfKnown(t *testing.T) {
	for _, c := range []struct {
		s    string
		want uint32
	}{
		{"", 0},
		{"a", 0xc1d04330},
		{"123456789", 0xe3069283},
		{strings.Repeat("\x00", 32), 0x8a9136aa},
		{strings.Repeat("\xff", 32), 0x62a8ab43},
		{"The quick brown fox jumps over the lazy dog", 0x22620404},
	} {
		if got := Of(c.s); got != c.want {
			t.Errorf("Of(%q): %08x, want %08x", c.s, got, c.want)
		}
	}
}

// P2.1: each text of one byte.
func TestOfOneByte(t *testing.T) {
	for b := range 256 {
		s := string([]byte{byte(b)})
		if got, want := Of(s), plainly(s); got != want {
			t.Errorf("Of(%q): %08x, want %08x", s, got, want)
		}
	}
}

// P2.1: against the chapter's words, and against the library's own.
func TestOfMany(t *testing.T) {
	library := crc32.MakeTable(crc32.Castagnoli)
	for _, s := range samples() {
		got := Of(s)
		if want := plainly(s); got != want {
			t.Errorf("Of(%d bytes): %08x, want %08x", len(s), got, want)
		}
		if want := crc32.Checksum([]byte(s), library); got != want {
			t.Errorf("Of(%d bytes): %08x, the library's is %08x", len(s), got, want)
		}
	}
}

// P2.1: the sum's lowest byte comes first.
func TestSealKnown(t *testing.T) {
	for _, c := range []struct{ s, want string }{
		{"", "\x00\x00\x00\x00"},
		{"a", "a\x30\x43\xd0\xc1"},
		{"123456789", "123456789\x83\x92\x06\xe3"},
	} {
		if got := Seal(c.s); got != c.want {
			t.Errorf("Seal(%q): %q, want %q", c.s, got, c.want)
		}
	}
}

// P2.1: what was sealed is opened, and a seal may be sealed again.
func TestSealOpen(t *testing.T) {
	for _, s := range samples() {
		sealed := Seal(s)
		if len(sealed) != len(s)+4 || !strings.HasPrefix(sealed, s) || sumAt(sealed) != plainly(s) {
			t.Errorf("Seal(%d bytes) isn't the text, and its sum in four bytes", len(s))
		}
		if got, is := Open(sealed); got != s || !is {
			t.Errorf("Open(Seal(%d bytes)): %d bytes, %v", len(s), len(got), is)
		}
		if got, is := Open(Seal(sealed)); got != sealed || !is {
			t.Errorf("Open(Seal(Seal(%d bytes))): %d bytes, %v", len(s), len(got), is)
		}
	}
}

func notOpened(t *testing.T, what, s string) {
	t.Helper()
	if got, is := Open(s); got != "" || is {
		t.Errorf("%s: Open(%q): %q, %v; want empty and false", what, s, got, is)
	}
}

// P2.1: texts that are too short for a sum, the ends of seals among them.
func TestOpenShort(t *testing.T) {
	for _, s := range []string{"", "\x00", "\x00\x00", "\x00\x00\x00", "\xff\xff\xff", "a", "abc"} {
		notOpened(t, "short", s)
	}
	sealed := Seal("a")
	for n := range 4 {
		notOpened(t, "a seal's beginning", sealed[:n])
		notOpened(t, "a seal's end", sealed[len(sealed)-n:])
	}
}

// P2.1: texts that are long enough, and are no seal.
func TestOpenNoSeal(t *testing.T) {
	for _, s := range []string{
		"abcd", "abcde", "\xff\xff\xff\xff", "\x00\x00\x00\x01", "\x01\x00\x00\x00", "123456789",
		"123456789\xe3\x06\x92\x83", // the highest byte first
		"\x83\x92\x06\xe3123456789", // the sum ahead
		"123456789\x7c\x6d\xf9\x1c", // the bits not turned in the end
		strings.Repeat("\x00", 5), strings.Repeat("\x00", 256), strings.Repeat("\xff", 256),
	} {
		notOpened(t, "no seal", s)
	}
	for _, s := range samples() {
		if len(s) > 1 {
			sealed := Seal(s)
			notOpened(t, "a byte short", sealed[:len(sealed)-1])
			notOpened(t, "a byte short", sealed[1:])
			notOpened(t, "a byte more", sealed+"\x00")
		}
	}
}

// P2.1: whatever four bytes stand behind a text, only its sum opens it.
func TestOpenOneSumOnly(t *testing.T) {
	r := rand.New(rand.NewSource(21))
	for _, s := range []string{"", "a", "123456789"} {
		for range 2000 {
			end := randomText(r, 4)
			if s+end == Seal(s) {
				continue
			}
			notOpened(t, "another sum", s+end)
		}
	}
}

// spoilt is s with what of with isn't nought laid over it, from at on, by exclusive or.
func spoilt(s string, at int, with []byte) string {
	b := []byte(s)
	for i, x := range with {
		b[at+i] ^= x
	}
	return string(b)
}

func toldAsSpoilt(t *testing.T, sealed string, at int, with ...byte) {
	t.Helper()
	if got, is := Open(spoilt(sealed, at, with)); got != "" || is {
		t.Fatalf("%d bytes, %x laid over %d: opened", len(sealed), with, at)
	}
}

// P2.2: each single byte, each way that it may be another; and each pair of bits within four bytes.
func TestBurstsSmall(t *testing.T) {
	for _, s := range []string{"", "a", "123456789", strings.Repeat("\x00", 20)} {
		sealed := Seal(s)
		for at := range len(sealed) {
			for x := 1; x < 256; x++ {
				toldAsSpoilt(t, sealed, at, byte(x))
			}
		}
		for at := 0; at+4 <= len(sealed); at++ {
			for i := range 32 {
				for j := range i {
					var with [4]byte
					with[i/8] |= 1 << (i % 8)
					with[j/8] |= 1 << (j % 8)
					toldAsSpoilt(t, sealed, at, with[:]...)
				}
			}
		}
	}
}

// P2.2: two, three and four bytes side by side, anywhere, also across into the sum and within it.
func TestBurstsAnywhere(t *testing.T) {
	r := rand.New(rand.NewSource(22))
	for _, n := range []int{0, 1, 2, 3, 4, 5, 9, 60, 208, 252, 1500} {
		sealed := Seal(randomText(r, n))
		for size := 1; size <= 4; size++ {
			for at := 0; at+size <= len(sealed); at++ {
				for range 4 {
					with := make([]byte, size)
					for i := range with {
						with[i] = byte(1 + r.Intn(255)) // each of them is another
					}
					toldAsSpoilt(t, sealed, at, with...)
				}
			}
		}
	}
}

// sumAt is the number that a seal's last four bytes are.
func sumAt(sealed string) uint32 {
	end := sealed[len(sealed)-4:]
	return uint32(end[0]) | uint32(end[1])<<8 | uint32(end[2])<<16 | uint32(end[3])<<24
}

// fault is by which bits a text's last four bytes aren't the sum of the rest: nought of a seal alone.
func fault(s string) uint32 {
	return Of(s[:len(s)-4]) ^ sumAt(s)
}

// P2.2: every burst of four bytes there is, at every place. A fault of bits turned together is the exclusive or of their faults one by one; so none of the 2^32 - 1 bursts at a place is without one, if the 32 single faults there don't hang on each other.
func TestBurstsAll(t *testing.T) {
	r := rand.New(rand.NewSource(23))
	for _, n := range []int{0, 1, 3, 4, 9, 208, 252} {
		sealed := Seal(randomText(r, n))
		for at := 0; at+4 <= len(sealed); at++ {
			var faults []uint32
			for bit := range 32 {
				var with [4]byte
				with[bit/8] = 1 << (bit % 8)
				faults = append(faults, fault(spoilt(sealed, at, with[:])))
			}
			if got := rank(faults); got != 32 {
				t.Fatalf("%d bytes, four from %d on: rank %d", len(sealed), at, got)
			}
			some := randomText(r, 4)
			if fault(spoilt(sealed, at, []byte(some))) != together(faults, some) {
				t.Fatalf("%d bytes, %x laid over %d: not the faults of its bits together", len(sealed), some, at)
			}
		}
	}
}

// together is the exclusive or of the faults whose bits are 1 in with.
func together(faults []uint32, with string) uint32 {
	all := uint32(0)
	for bit, f := range faults {
		if with[bit/8]>>(bit%8)&1 == 1 {
			all ^= f
		}
	}
	return all
}

// rank is how many of the rows don't hang on the others, by exclusive or.
func rank(of []uint32) int {
	rows, n := slices.Clone(of), 0
	for bit := range 32 {
		for i := n; i < len(rows); i++ {
			if rows[i]>>bit&1 == 0 {
				continue
			}
			rows[n], rows[i] = rows[i], rows[n]
			for j := i + 1; j < len(rows); j++ {
				if rows[j]>>bit&1 == 1 {
					rows[j] ^= rows[n]
				}
			}
			n++
			break
		}
	}
	return n
}

// The way: nothing is reckoned ahead of the first asking, and nothing after it.
func TestTableOnce(t *testing.T) {
	var fresh table
	if fresh.rows != [16]uint32{} {
		t.Error("a table has rows before it is asked for")
	}
	reckoned := 0
	row := func(bits uint32) uint32 {
		reckoned++
		return fourDown(bits)
	}
	for range 3 {
		for n := range uint32(64) {
			if got := fresh.left(n, row); got != fourDown(n%16) {
				t.Errorf("left(%d): %08x, want %08x", n, got, fourDown(n%16))
			}
			if reckoned != 16 {
				t.Fatalf("%d rows were reckoned, want 16", reckoned)
			}
		}
	}
}

// The way: asked for from several sides at once, a table is reckoned by one of them, and all wait for it.
func TestTableManySides(t *testing.T) {
	for range 50 {
		var shared table
		var reckoned, wrong atomic.Int64
		begun := make(chan struct{})
		row := func(bits uint32) uint32 {
			if reckoned.Add(1) == 1 {
				<-begun // till the others are on their way
			}
			return fourDown(bits)
		}
		var sides, started sync.WaitGroup
		started.Add(8)
		for side := range uint32(8) {
			sides.Go(func() {
				started.Done()
				for n := range uint32(16) {
					if shared.left(n+side, row) != fourDown((n+side)%16) {
						wrong.Add(1)
					}
				}
			})
		}
		started.Wait()
		close(begun)
		sides.Wait()
		if reckoned.Load() != 16 || wrong.Load() != 0 {
			t.Fatalf("%d rows were reckoned, want 16; %d were wrong", reckoned.Load(), wrong.Load())
		}
	}
}

// Any number of goroutines may call at once.
func TestAtOnce(t *testing.T) {
	var all sync.WaitGroup
	for side := range 8 {
		all.Go(func() {
			for _, s := range samples() {
				if got, is := Open(Seal(s)); Of(s) != plainly(s) || got != s || !is {
					t.Errorf("side %d: %d bytes went wrong", side, len(s))
				}
			}
		})
	}
	all.Wait()
}

func BenchmarkOfSector(b *testing.B) {
	s := strings.Repeat("x", 256)
	for b.Loop() {
		Of(s)
	}
}
