package discrete_test

import (
	"math/rand"
	"slices"
	"testing"

	"baseboard/api"
)

// P13.2: known lists.
func TestKnownChanges(t *testing.T) {
	for _, x := range []struct {
		state uint16
		l     []api.Change
		want  applied
	}{
		{0x0005, []api.Change{off(0), on(1)}, applied{0x0006, api.OK}},
		{0x0005, []api.Change{on(1), off(0)}, applied{0x0006, api.OK}},
		{0, []api.Change{on(14), on(0), on(7)}, applied{0x4081, api.OK}},
		{0, []api.Change{on(3), off(3), on(3)}, applied{0x0008, api.OK}},
		{0x7FFF, []api.Change{off(3), on(3), off(3), on(3)}, applied{0x7FFF, api.OK}},
		{0, []api.Change{on(3), on(3)}, applied{0, api.ErrInvalid}},
		{0x0008, []api.Change{off(3), off(3)}, applied{0, api.ErrInvalid}},
		{0x0008, []api.Change{on(4), off(3), on(4)}, applied{0, api.ErrInvalid}},
		{0, []api.Change{on(0), on(15)}, applied{0, api.ErrRange}},
		{0, []api.Change{on(0), on(-1)}, applied{0, api.ErrRange}},
	} {
		checkApply(t, x.state, x.l, x.want)
	}
}

// P13.2: each index, set and cleared, at each state; bit 15 of a state stays.
func TestOneChange(t *testing.T) {
	for state := range 0x10000 {
		s := uint16(state)
		for i := range 15 {
			has := state/(1<<i)%2 == 1
			checkApply(t, s, []api.Change{{Index: i, Asserted: !has}}, applied{s ^ 1<<i, api.OK})
			checkApply(t, s, []api.Change{{Index: i, Asserted: has}}, applied{0, api.ErrInvalid})
		}
		for _, i := range []int{-1, 15, 16} {
			checkApply(t, s, []api.Change{on(i)}, applied{0, api.ErrRange})
			checkApply(t, s, []api.Change{off(i)}, applied{0, api.ErrRange})
		}
	}
}

// P13.2: indices far beyond, alone and behind changes that are not in error; at the states 0 and FFFF each of them would be set or cleared already, too.
func TestIndicesThatAreNone(t *testing.T) {
	for _, i := range far {
		for _, state := range []uint16{0, 1, 0x4000, 0x7FFF, 0x8000, 0xFFFF} {
			good := api.Change{Index: 14, Asserted: state&0x4000 == 0}
			for _, c := range []api.Change{on(i), off(i)} {
				checkApply(t, state, []api.Change{c}, applied{0, api.ErrRange})
				checkApply(t, state, []api.Change{good, c}, applied{0, api.ErrRange})
			}
		}
	}
}

// P13.2: the empty list, at each state.
func TestNoChanges(t *testing.T) {
	for state := range 0x10000 {
		for _, l := range [][]api.Change{nil, {}, make([]api.Change, 0, 3)} {
			checkApply(t, uint16(state), l, applied{uint16(state), api.OK})
		}
	}
}

// P13.2: the first change in error decides, wherever it stands.
func TestFirstChangeInError(t *testing.T) {
	bad := []struct {
		c api.Change
		e api.Errno
	}{{on(15), api.ErrRange}, {off(-1), api.ErrRange}, {on(0), api.ErrInvalid}, {off(1), api.ErrInvalid}}
	good := []api.Change{on(5), off(6), on(14), off(14)}
	for _, first := range bad {
		for _, second := range bad {
			for before := range len(good) + 1 {
				l := slices.Concat(good[:before], []api.Change{first.c, second.c}, good[before:])
				checkApply(t, 0x0041, l, applied{0, first.e})
			}
		}
	}
	checkApply(t, 0x0041, good, applied{0x0021, api.OK})
}

// P13.2: all lists of up to four changes out of ten.
func TestAllShortLists(t *testing.T) {
	all := []api.Change{on(0), off(0), on(1), off(1), on(14), off(14), on(15), off(15), on(-1), off(16)}
	var visit func(l []api.Change, n int)
	visit = func(l []api.Change, n int) {
		for _, state := range []uint16{0, 0x4002, 0xFFFF} {
			checkApply(t, state, l, wantApply(state, l))
		}
		if n == 0 {
			return
		}
		for _, c := range all {
			visit(append(l, c), n-1)
		}
	}
	visit(nil, 4)
}

// P13.2: long lists.
func TestDrawnLists(t *testing.T) {
	r := rand.New(rand.NewSource(131))
	count := map[api.Errno]int{}
	for range 30000 {
		state := uint16(r.Intn(0x10000))
		l := drawChanges(r, state)
		want := wantApply(state, l)
		count[want.e]++
		checkApply(t, state, l, want)
	}
	if count[api.OK] < 5000 || count[api.ErrRange] < 3000 || count[api.ErrInvalid] < 3000 {
		t.Errorf("too few lists of a kind: %v", count)
	}
}

// P13.2: the longest lists that change something with each change.
func TestLongLists(t *testing.T) {
	for _, n := range []int{255, 256, 257, 65535, 65536, 65537, 100001} {
		var l []api.Change
		for i := range n {
			l = append(l, api.Change{Index: 14, Asserted: i%2 == 0})
		}
		checkApply(t, 1, l, applied{1 + 0x4000*uint16(n%2), api.OK})
		checkApply(t, 1, append(l, on(0)), applied{0, api.ErrInvalid})
		checkApply(t, 1, append(l, on(15)), applied{0, api.ErrRange})
	}
}
