package run

import (
	"math"
	"slices"
	"strings"
	"testing"

	"archivist/api"
)

// numbered is a vault each of whose pages has its own bytes.
func numbered(t *testing.T, pages int) api.Vault {
	t.Helper()
	list := map[int]string{}
	for no := range pages {
		list[no] = mixed(208, int64(no))
	}
	return laid(t, formatted(t, pages), list)
}

// P14.1: the pages' bytes are in the order of the runs, whichever these are: touching ones, falling ones, one told twice, page 0's, all that there are; where there are just as many.
func TestLoadOfRuns(t *testing.T) {
	v := numbered(t, 16)
	for _, l := range [][]api.Span{
		span(3, 1),
		span(0, 1),
		span(15, 1),
		span(0, 16),
		{{Start: 1, Len: 2}, {Start: 3, Len: 1}},
		{{Start: 9, Len: 2}, {Start: 1, Len: 3}},
		{{Start: 4, Len: 2}, {Start: 5, Len: 2}},
		{{Start: 5, Len: 8}, {Start: 5, Len: 8}},
		{{Start: 1, Len: 15}, {Start: 7, Len: 1}},
		runsOf(15, 13, 11, 9, 7, 5, 3, 1, 14, 12, 10, 8, 6, 4, 2, 0),
	} {
		want := ""
		for _, no := range pagesOf(l) {
			want += bytesOf(t, v, no)
		}
		if s, err := Load(v, l, len(want)); err != api.OK || s != want {
			t.Errorf("Load(%v): %d bytes, %d", l, len(s), err)
		}
	}
}

// P14.1: a run that is shorter than 1, or longer than the vault has pages, whatever the others are, and whatever it begins with; on a Dead disk, too.
func TestRunsThatMayNotBe(t *testing.T) {
	for _, pages := range []int{16, 512} {
		v := numbered(t, pages)
		for _, n := range []int{math.MinInt, -208, -2, -1, 0, pages + 1, 1000, 1 << 31, 1<<32 + 1, math.MaxInt} {
			for _, start := range []int{0, 1, pages - 1, pages, -1, math.MinInt, math.MaxInt} {
				bad := api.Span{Start: start, Len: n}
				for _, l := range [][]api.Span{{bad}, {{Start: 1, Len: 2}, bad}, {bad, {Start: 1, Len: 2}}, {bad, {Start: 3, Len: 2 - n}}, {bad, bad}} {
					for _, size := range []int{0, 1, 208, 416, 624, 208 * pages, 208 * (pages + 1), 208 * n, -1} {
						unread(t, v, l, size, api.ErrForm)
						unread(t, dead(v), l, size, api.ErrForm)
					}
				}
			}
		}
	}
}

// P14.1: runs that all together aren't just as many pages as the bytes take, by one too; on a Dead disk, too.
func TestRunsOfOtherSizes(t *testing.T) {
	v := formatted(t, 16)
	for _, l := range [][]api.Span{nil, {}, span(1, 1), span(1, 2), {{Start: 1, Len: 2}, {Start: 9, Len: 1}}, span(0, 16)} {
		has := len(pagesOf(l))
		for _, size := range []int{0, 1, 207, 208, 209, 416, 417, 624, 625, 208 * 15, 208*15 + 1, 208 * 16, 208*16 + 1, 208 * 17, 208*has + 1, math.MaxInt} {
			if need(min(size, 208*100)) == has {
				s, err := Load(v, l, size)
				if err != api.OK || s != strings.Repeat("\x00", size) {
					t.Errorf("Load(%v, %d): %d bytes, %d", l, size, len(s), err)
				}
				continue
			}
			unread(t, v, l, size, api.ErrForm)
			unread(t, dead(v), l, size, api.ErrForm)
		}
	}
}

// P14.1: fewer than no bytes take no page: no run has them, and of no runs they are none.
func TestSizesBelowNothing(t *testing.T) {
	v := formatted(t, 16)
	for _, size := range []int{-1, -207, -208, -209, -416, math.MinInt} {
		if s, err := Load(v, nil, size); err != api.OK || s != "" {
			t.Errorf("Load of no runs, %d: %q, %d", size, s, err)
		}
		unread(t, v, span(1, 1), size, api.ErrForm)
		unread(t, v, span(1, -1), size, api.ErrForm)
	}
}

// P14.1: runs that all together are more pages than the vault has, though each is not, and the bytes are as many.
func TestRunsOfMoreThanThereAre(t *testing.T) {
	for _, pages := range []int{16, 40, 512} {
		v := formatted(t, pages)
		ones := slices.Repeat(span(3, 1), pages+1)
		for _, l := range [][]api.Span{{{Start: 0, Len: pages}, {Start: 1, Len: 1}}, {{Start: 1, Len: 1}, {Start: 0, Len: pages}}, {{Start: 0, Len: pages}, {Start: 0, Len: pages}}, ones} {
			size := 208 * len(pagesOf(l))
			unread(t, v, l, size, api.ErrForm)
			unread(t, v, l, size-1, api.ErrForm)
			unread(t, dead(v), l, size, api.ErrForm)
		}
		if s, err := Load(v, ones[1:], 208*pages); err != api.OK || len(s) != 208*pages {
			t.Errorf("as many as there are: %d bytes, %d", len(s), err)
		}
	}
}

// P14.1: pages that there aren't, first, last, or among others; where the first one isn't there, a Dead disk changes nothing of that.
func TestPagesThatThereAreNot(t *testing.T) {
	for _, pages := range []int{16, 300, 512} {
		v := formatted(t, pages)
		for _, no := range append(slices.Clone(wrong), pages, pages+1) {
			bad := api.Span{Start: no, Len: 1}
			unread(t, v, []api.Span{bad}, 208, api.ErrForm)
			unread(t, dead(v), []api.Span{bad}, 1, api.ErrForm)
			unread(t, v, []api.Span{{Start: 1, Len: 2}, bad}, 600, api.ErrForm)
			unread(t, v, []api.Span{bad, {Start: 1, Len: 2}}, 600, api.ErrForm)
			unread(t, v, []api.Span{{Start: no, Len: 16}}, 208*16, api.ErrForm)
		}
		unread(t, v, span(pages-1, 2), 416, api.ErrForm)
		unread(t, v, span(1, pages), 208*pages, api.ErrForm)
		unread(t, v, span(-1, 2), 416, api.ErrForm)
		if s, err := Load(v, span(pages-1, 1), 208); err != api.OK || s != page("") {
			t.Errorf("the last page: %d bytes, %d", len(s), err)
		}
	}
}

// P14.1: something other than noughts behind the bytes, at each place there; of the bytes themselves any may be.
func TestWhatIsBehindTheBytes(t *testing.T) {
	l := []api.Span{{Start: 5, Len: 1}, {Start: 2, Len: 1}}
	for _, has := range []int{1, 2, 100, 206, 207, 208} {
		body := mixed(208+has, int64(has))
		v := laid(t, formatted(t, 16), map[int]string{5: body[:208], 2: body[208:]})
		bodyIs(t, v, l, body)
		for at := has; at < 208; at++ {
			for _, c := range []string{"\x01", "0", " ", "\xff"} {
				behind := body[208:] + strings.Repeat("\x00", at-has) + c
				unread(t, laid(t, v, map[int]string{2: behind}), l, 208+has, api.ErrForm)
			}
		}
		trailing := body[:208+has-1] + "\x00"
		v = laid(t, v, map[int]string{2: trailing[208:]})
		bodyIs(t, v, l, trailing)
		full := strings.Repeat("\xff", 208)
		unread(t, laid(t, v, map[int]string{2: full}), l, 208+min(has, 207), api.ErrForm)
	}
	v := laid(t, formatted(t, 16), map[int]string{1: "a\x00\x00b", 3: "next"})
	for size, want := range []string{"", "", "", "", "a\x00\x00b", "a\x00\x00b\x00"} {
		if want == "" {
			unread(t, v, span(1, 1), size, api.ErrForm)
			continue
		}
		if s, err := Load(v, span(1, 1), size); err != api.OK || s != want {
			t.Errorf("Load of %d bytes: %q, %d", size, s, err)
		}
	}
}

// Rule 5: raw vaults, whose shape isn't their disk's, or whose pages have fewer bytes, or more: each call ends.
func TestRawVaults(t *testing.T) {
	base, l := take(t, formatted(t, 16), mixed(300, 1), false)
	for _, data := range []string{"", "abc", strings.Repeat("\xff", 300)} {
		v := base
		v.Dirty = []api.Leaf{{No: 0, Data: data}, {No: 1, Data: data}, {No: 2, Data: data}}
		for _, pages := range []int{math.MinInt, -1, 0, 1, 16, 17, 600, math.MaxInt} {
			v.Shape.Pages = pages
			for _, n := range []int{300, 208 * 700} {
				Take(v, mixed(n, 2), false)
				Take(v, mixed(n, 2), true)
			}
			Give(v, l)
			Load(v, l, 300)
			Load(v, span(10, 700), 208*700)
			unread(t, v, []api.Span{{Start: 1, Len: math.MaxInt}, {Start: 1, Len: math.MaxInt}}, -2, api.ErrForm)
		}
		if data == "abc" {
			v.Shape.Pages = 16
			unread(t, v, l, 300, api.ErrForm)
		}
	}
}
