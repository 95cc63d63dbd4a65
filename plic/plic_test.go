package plic

import (
	"fmt"
	"math"
	"math/rand"
	"slices"
	"testing"

	"tandem/api"
)

const all = uint64(1<<64 - 1)

// A spot is a place as the chapter's text has it; what it hasn't, it may not.
type spot struct {
	at    uint64
	read  func(p *api.Plic, sources uint32) uint32
	write func(p *api.Plic, v uint32)
}

// places: the chapter's list.
func places() []spot {
	list := []spot{{0xc001000, func(p *api.Plic, sources uint32) (n uint32) {
		for source := 1; source <= 3; source++ {
			if waitsBy(*p, sources, source) {
				n += 1 << source
			}
		}
		return n
	}, nil}}
	for source, at := range map[int]uint64{1: 0xc000004, 2: 0xc000008, 3: 0xc00000c} {
		list = append(list, spot{at, func(p *api.Plic, _ uint32) uint32 { return p.Prio[source] },
			func(p *api.Plic, v uint32) { p.Prio[source] = v % 8 }})
	}
	for who, at := range [][3]uint64{{0xc002000, 0xc200000, 0xc200004}, {0xc002080, 0xc201000, 0xc201004}} {
		list = append(list,
			spot{at[0], func(p *api.Plic, _ uint32) uint32 { return p.Enable[who] },
				func(p *api.Plic, v uint32) { p.Enable[who] = v % 16 / 2 * 2 }},
			spot{at[1], func(p *api.Plic, _ uint32) uint32 { return p.Level[who] },
				func(p *api.Plic, v uint32) { p.Level[who] = v % 8 }},
			spot{at[2], func(p *api.Plic, sources uint32) uint32 {
				n := bestBy(*p, sources, who)
				if n != 0 {
					p.Claimed += 1 << n
				}
				return uint32(n)
			}, func(p *api.Plic, v uint32) {
				if v >= 1 && v <= 3 && has(p.Enable[who], int(v)) && has(p.Claimed, int(v)) {
					p.Claimed -= 1 << v
				}
			}})
	}
	slices.SortFunc(list, func(a, b spot) int { return int(a.at) - int(b.at) })
	return list
}

// has: has the set this source?
func has(set uint32, source int) bool { return set/(1<<source)%2 == 1 }

// waitsBy: does the source wait? As the chapter's words tell it.
func waitsBy(p api.Plic, sources uint32, source int) bool {
	return has(sources, source) && !has(p.Claimed, source)
}

// mayBy: may the source interrupt who, if there were no other one?
func mayBy(p api.Plic, sources uint32, who, source int) bool {
	return waitsBy(p, sources, source) && has(p.Enable[who], source) && p.Prio[source] > p.Level[who]
}

// bestBy: Best, likewise: the source that goes ahead of each other one that may.
func bestBy(p api.Plic, sources uint32, who int) int {
	if who != 0 && who != 1 {
		return 0
	}
	for n := 1; n <= 3; n++ {
		first := mayBy(p, sources, who, n)
		for other := 1; other <= 3; other++ {
			ahead := p.Prio[other] > p.Prio[n] || p.Prio[other] == p.Prio[n] && other < n
			first = first && !(ahead && mayBy(p, sources, who, other))
		}
		if first {
			return n
		}
	}
	return 0
}

// linesBy: Lines, likewise.
func linesBy(p api.Plic, sources uint32) (n uint64) {
	if bestBy(p, sources, 0) != 0 {
		n += 0x800
	}
	if bestBy(p, sources, 1) != 0 {
		n += 0x200
	}
	return n
}

// loadBy: Load, likewise.
func loadBy(p api.Plic, sources uint32, at uint64, size int) (api.Plic, uint64, bool) {
	for _, x := range places() {
		if x.at == at && size == 4 {
			n := x.read(&p, sources)
			return p, uint64(n), true
		}
	}
	return api.Plic{}, 0, false
}

// storeBy: Store, likewise.
func storeBy(p api.Plic, at uint64, size int, v uint64) (api.Plic, bool) {
	for _, x := range places() {
		if x.at == at && size == 4 && x.write != nil {
			x.write(&p, uint32(v%(1<<32)))
			return p, true
		}
	}
	return api.Plic{}, false
}

// rightBy: Right, likewise.
func rightBy(p api.Plic) bool {
	right := p.Prio[0] == 0
	for _, n := range []uint32{p.Prio[1], p.Prio[2], p.Prio[3], p.Level[0], p.Level[1]} {
		right = right && n < 8
	}
	for _, n := range []uint32{p.Enable[0], p.Enable[1], p.Claimed} {
		right = right && n%2 == 0 && n < 16
	}
	return right
}

func wantBest(t *testing.T, p api.Plic, sources uint32, who, want int) {
	t.Helper()
	before := p
	if n := Best(p, sources, who); n != want || p != before {
		t.Errorf("Best(%v, %x, %d): %d, want %d (given then: %v)", before, sources, who, n, want, p)
	}
}

func wantLines(t *testing.T, p api.Plic, sources uint32, want uint64) {
	t.Helper()
	before := p
	if n := Lines(p, sources); n != want || p != before {
		t.Errorf("Lines(%v, %x): %x, want %x (given then: %v)", before, sources, n, want, p)
	}
}

func wantLoad(t *testing.T, p api.Plic, sources uint32, at uint64, size int, behind api.Plic, want uint64, ok bool) {
	t.Helper()
	before := p
	got, n, may := Load(p, sources, at, size)
	if got != behind || n != want || may != ok || p != before {
		t.Errorf("Load(%v, %x, %x, %d): %v, %x, %v, want %v, %x, %v (given then: %v)",
			before, sources, at, size, got, n, may, behind, want, ok, p)
	}
}

func wantStore(t *testing.T, p api.Plic, at uint64, size int, v uint64, behind api.Plic, ok bool) {
	t.Helper()
	before := p
	if got, may := Store(p, at, size, v); got != behind || may != ok || p != before {
		t.Errorf("Store(%v, %x, %d, %x): %v, %v, want %v, %v (given then: %v)", before, at, size, v, got, may, behind, ok, p)
	}
}

// wantWords: each call answers as the chapter's words tell it.
func wantWords(t *testing.T, p api.Plic, sources uint32, who int, at uint64, size int, v uint64) {
	t.Helper()
	wantBest(t, p, sources, who, bestBy(p, sources, who))
	wantLines(t, p, sources, linesBy(p, sources))
	behind, n, ok := loadBy(p, sources, at, size)
	wantLoad(t, p, sources, at, size, behind, n, ok)
	behind, ok = storeBy(p, at, size, v)
	wantStore(t, p, at, size, v, behind, ok)
	if got := Right(p); got != rightBy(p) {
		t.Errorf("Right(%v): %v", p, got)
	}
}

// busy: a right state in which no two fields are alike.
func busy() api.Plic {
	return api.Plic{Prio: [4]uint32{0, 5, 6, 3}, Enable: [2]uint32{0xe, 0xa}, Level: [2]uint32{2, 4}, Claimed: 4}
}

// with: that state with one thing changed.
func with(change func(p *api.Plic)) api.Plic {
	p := busy()
	change(&p)
	return p
}

// chance: a state by chance; a right one, if that is asked.
func chance(r *rand.Rand, right bool) api.Plic {
	p := api.Plic{
		Prio: [4]uint32{0, r.Uint32() & 7, r.Uint32() & 7, r.Uint32() & 7}, Enable: [2]uint32{r.Uint32() & 14, r.Uint32() & 14},
		Level: [2]uint32{r.Uint32() & r.Uint32() & 7, r.Uint32() & r.Uint32() & 7}, Claimed: r.Uint32() & r.Uint32() & 14,
	}
	if right {
		return p
	}
	fields := []*uint32{
		&p.Prio[0], &p.Prio[1], &p.Prio[2], &p.Prio[3], &p.Enable[0], &p.Enable[1], &p.Level[0], &p.Level[1], &p.Claimed,
	}
	for range r.Intn(10) {
		*fields[r.Intn(9)] = r.Uint32() >> r.Intn(32)
	}
	return p
}

// someNumbers: bits of places, sources, and what lies above them and above the low 32 bits.
func someNumbers() []uint64 {
	list := []uint64{5, 6, 7, 9, 10, 11, 12, 13, 14, 15, 33, 34, 35, 0xaaaaaaaa, 0x55555555, 1<<32 - 1, 1<<32 + 7, 1<<33 + 3, 1<<63 + 2, all - 1, all}
	for n := range 64 {
		list = append(list, 1<<n, all-1<<n)
	}
	for n := range uint64(5) {
		list = append(list, n, n+1<<32, n+1<<31, n+1<<63, n+256)
	}
	return list
}

func someSizes() []int {
	return []int{math.MinInt, -8, -4, -1, 0, 1, 2, 3, 4, 5, 6, 7, 8, 9, 16, 32, 64, 260, 1 << 31, 1<<32 + 4, math.MinInt + 4, math.MaxInt}
}

func nobodies() []int {
	return []int{math.MinInt, math.MinInt + 1, -1 << 32, -256, -3, -2, -1, 2, 3, 4, 8, 255, 256, 257, 1 << 31, 1 << 32, 1<<32 + 1, math.MaxInt}
}

// P13.1: the chapter's example.
func TestExample(t *testing.T) {
	p := api.Plic{Prio: [4]uint32{0, 3, 3, 0}, Enable: [2]uint32{6, 6}}
	wantBest(t, p, 6, 0, 1)
	wantBest(t, p, 6, 1, 1)
}

// P13.1: Best, as written down by hand.
func TestKnownBest(t *testing.T) {
	for _, x := range []struct {
		what                            string
		prio                            [3]uint32
		enable, level, claimed, sources uint32
		want                            int
	}{
		{"nothing at all", [3]uint32{}, 0, 0, 0, 0, 0},
		{"one", [3]uint32{1, 0, 0}, 2, 0, 0, 2, 1},
		{"the second", [3]uint32{0, 1, 0}, 4, 0, 0, 4, 2},
		{"the third", [3]uint32{0, 0, 1}, 8, 0, 0, 8, 3},
		{"none waits", [3]uint32{7, 7, 7}, 14, 0, 0, 0, 0},
		{"none is enabled", [3]uint32{7, 7, 7}, 0, 0, 0, 14, 0},
		{"a Prio of 0", [3]uint32{0, 0, 0}, 14, 0, 0, 14, 0},
		{"a Prio equal to the Level", [3]uint32{3, 3, 3}, 14, 3, 0, 14, 0},
		{"one above", [3]uint32{3, 3, 4}, 14, 3, 0, 14, 3},
		{"one below", [3]uint32{2, 2, 2}, 14, 3, 0, 14, 0},
		{"7 and a Level of 6", [3]uint32{7, 7, 7}, 14, 6, 0, 14, 1},
		{"7 and a Level of 7", [3]uint32{7, 7, 7}, 14, 7, 0, 14, 0},
		{"the greatest is the first", [3]uint32{6, 5, 4}, 14, 0, 0, 14, 1},
		{"the greatest is in the midst", [3]uint32{5, 6, 4}, 14, 0, 0, 14, 2},
		{"the greatest is the last", [3]uint32{5, 4, 6}, 14, 0, 0, 14, 3},
		{"three are alike", [3]uint32{6, 6, 6}, 14, 0, 0, 14, 1},
		{"the first two are alike", [3]uint32{6, 6, 5}, 14, 0, 0, 14, 1},
		{"the last two are alike", [3]uint32{5, 6, 6}, 14, 0, 0, 14, 2},
		{"the first and the last are alike", [3]uint32{6, 5, 6}, 14, 0, 0, 14, 1},
		{"the greatest waits, but isn't enabled", [3]uint32{7, 5, 6}, 12, 0, 0, 14, 3},
		{"the greatest is enabled, but doesn't wait", [3]uint32{7, 5, 6}, 14, 0, 0, 12, 3},
		{"the greatest is claimed", [3]uint32{7, 5, 6}, 14, 0, 2, 14, 3},
		{"the greatest two are claimed", [3]uint32{7, 5, 6}, 14, 0, 10, 14, 2},
		{"all are claimed", [3]uint32{7, 5, 6}, 14, 0, 14, 14, 0},
		{"one waits, another is enabled", [3]uint32{7, 7, 7}, 4, 0, 0, 10, 0},
		{"another is claimed", [3]uint32{7, 7, 7}, 4, 0, 10, 4, 2},
		{"numbers that aren't sources", [3]uint32{7, 7, 7}, 1<<32 - 1, 0, 0, 1<<32 - 15, 0},
		{"numbers above all that may be", [3]uint32{1 << 31, 1<<32 - 2, 9}, 14, 1 << 31, 0, 14, 2},
		{"equal there", [3]uint32{1<<32 - 1, 1<<32 - 1, 0}, 14, 1<<32 - 1, 0, 14, 0},
	} {
		for who := range 2 {
			p := api.Plic{Prio: [4]uint32{0, x.prio[0], x.prio[1], x.prio[2]}, Claimed: x.claimed}
			p.Enable[who], p.Level[who] = x.enable, x.level
			// What the other one has doesn't count.
			for n := range 16 {
				p.Enable[1-who], p.Level[1-who] = uint32(n&3)*7&14, uint32(n>>2)*7/3
				if got := Best(p, x.sources, who); got != x.want {
					t.Errorf("%s: Best(%v, %x, %d): %d, want %d", x.what, p, x.sources, who, got, x.want)
				}
			}
			for _, nobody := range nobodies() {
				wantBest(t, p, x.sources, nobody, 0)
			}
		}
	}
}

// P13.1: Best and Lines: all Prios with all Levels, and with all sets that wait and are enabled.
func TestAllBest(t *testing.T) {
	for n := range 1 << 15 {
		p := api.Plic{Prio: [4]uint32{0, uint32(n & 7), uint32(n >> 3 & 7), uint32(n >> 6 & 7)}}
		p.Enable = [2]uint32{uint32(n>>9&7) << 1, 14}
		sources := uint32(n>>12) << 1
		for level := range uint32(8) {
			p.Level = [2]uint32{level, 7 - level}
			wantBest(t, p, sources, 0, bestBy(p, sources, 0))
			wantBest(t, p, sources, 1, bestBy(p, sources, 1))
			wantLines(t, p, sources, linesBy(p, sources))
		}
	}
}

// P13.1: all sets that wait, are Claimed, and are enabled for both.
func TestAllSets(t *testing.T) {
	for _, prio := range [][4]uint32{{0, 1, 1, 1}, {0, 7, 6, 5}, {0, 3, 4, 4}, {9, 2, 3, 2}, {0, 0, 2, 3}} {
		for n := range 1 << 16 {
			p := api.Plic{Prio: prio, Enable: [2]uint32{uint32(n & 15), uint32(n >> 4 & 15)}, Level: [2]uint32{1, 2}}
			p.Claimed = uint32(n >> 8 & 15)
			sources := uint32(n >> 12)
			wantBest(t, p, sources, 0, bestBy(p, sources, 0))
			wantBest(t, p, sources, 1, bestBy(p, sources, 1))
			wantLines(t, p, sources, linesBy(p, sources))
			wantLoad(t, p, sources, 0xc001000, 4, p, uint64(sources-sources&p.Claimed)/2*2, true)
		}
	}
}

// P13.1: Best and Lines by bits of sources, Enable and Claimed that aren't 1 to 3, with the Prio of 0 that there may not be.
func TestNoSource(t *testing.T) {
	p := api.Plic{Prio: [4]uint32{9, 0, 0, 0}, Enable: [2]uint32{1<<32 - 1, 1<<32 - 1}}
	for place := range 32 {
		bit := uint32(1) << place
		wantBest(t, p, bit, 0, 0)
		wantBest(t, p, bit, 1, 0)
		wantLines(t, p, bit, 0)
		want := uint64(bit & 14)
		wantLoad(t, p, bit, 0xc001000, 4, p, want, true)
		wantLoad(t, p, 1<<32-1-bit, 0xc001000, 4, p, 14-want, true)
		wantLoad(t, p, bit, 0xc200004, 4, p, 0, true)
		claimed := with(func(p *api.Plic) { p.Claimed, p.Prio = bit, [4]uint32{9, 1, 0, 0} })
		wantLoad(t, claimed, 1<<32-1, 0xc001000, 4, claimed, 14-want, true)
	}
	// Others than 1 to 3 take nothing from those.
	p = api.Plic{Prio: [4]uint32{9, 3, 4, 5}, Enable: [2]uint32{1<<32 - 15, 1<<32 - 13}, Claimed: 1<<32 - 15}
	wantBest(t, p, 1<<32-1, 0, 0)
	wantBest(t, p, 1<<32-1, 1, 1)
	wantLines(t, p, 1<<32-1, 0x200)
	p.Claimed |= 2
	wantLines(t, p, 1<<32-1, 0)
}

// P13.1: Lines, as written down by hand.
func TestKnownLines(t *testing.T) {
	p := api.Plic{Prio: [4]uint32{0, 2, 3, 4}, Enable: [2]uint32{2, 8}, Level: [2]uint32{1, 3}}
	for sources, want := range []uint64{0, 0, 0x800, 0x800, 0, 0, 0x800, 0x800, 0x200, 0x200, 0xa00, 0xa00, 0x200, 0x200, 0xa00, 0xa00} {
		wantLines(t, p, uint32(sources), want)
	}
	p.Level = [2]uint32{2, 3}
	wantLines(t, p, 14, 0x200)
	p.Level = [2]uint32{1, 4}
	wantLines(t, p, 14, 0x800)
	p.Claimed = 2
	wantLines(t, p, 14, 0)
	wantLines(t, api.Plic{}, 14, 0)
}

// P13.1: Right: each limit, just at it and one beyond.
func TestRight(t *testing.T) {
	for _, x := range []struct {
		what   string
		change func(p *api.Plic)
		right  bool
	}{
		{"as it is", func(p *api.Plic) {}, true},
		{"of noughts", func(p *api.Plic) { *p = api.Plic{} }, true},
		{"all at their limits", func(p *api.Plic) {
			*p = api.Plic{Prio: [4]uint32{0, 7, 7, 7}, Enable: [2]uint32{14, 14}, Level: [2]uint32{7, 7}, Claimed: 14}
		}, true},
		{"Prio 0 of 1", func(p *api.Plic) { p.Prio[0] = 1 }, false},
		{"Prio 0 of 8", func(p *api.Plic) { p.Prio[0] = 8 }, false},
		{"Prio 1 of 8", func(p *api.Plic) { p.Prio[1] = 8 }, false},
		{"Prio 2 of 8", func(p *api.Plic) { p.Prio[2] = 8 }, false},
		{"Prio 3 of 8", func(p *api.Plic) { p.Prio[3] = 8 }, false},
		{"Prio 3 of 16", func(p *api.Plic) { p.Prio[3] = 16 }, false},
		{"Prio 3 of 7", func(p *api.Plic) { p.Prio[3] = 7 }, true},
		{"Prio 1 with the top bit", func(p *api.Plic) { p.Prio[1] = 1<<31 + 5 }, false},
		{"Level 0 of 8", func(p *api.Plic) { p.Level[0] = 8 }, false},
		{"Level 1 of 8", func(p *api.Plic) { p.Level[1] = 8 }, false},
		{"Level 1 with the top bit", func(p *api.Plic) { p.Level[1] = 1 << 31 }, false},
		{"Level 0 of 7", func(p *api.Plic) { p.Level[0] = 7 }, true},
		{"Enable 0 with bit 0", func(p *api.Plic) { p.Enable[0] = 1 }, false},
		{"Enable 0 with bit 4", func(p *api.Plic) { p.Enable[0] = 16 }, false},
		{"Enable 1 with bit 0", func(p *api.Plic) { p.Enable[1] = 15 }, false},
		{"Enable 1 with bit 4", func(p *api.Plic) { p.Enable[1] = 30 }, false},
		{"Enable 1 with bit 31", func(p *api.Plic) { p.Enable[1] = 1 << 31 }, false},
		{"Claimed with bit 0", func(p *api.Plic) { p.Claimed = 1 }, false},
		{"Claimed with bit 4", func(p *api.Plic) { p.Claimed = 16 }, false},
		{"Claimed with bit 31", func(p *api.Plic) { p.Claimed = 1<<31 + 2 }, false},
		{"Claimed that nobody enables", func(p *api.Plic) { p.Claimed, p.Enable = 14, [2]uint32{} }, true},
	} {
		p := with(x.change)
		if Right(p) != x.right || rightBy(p) != x.right {
			t.Errorf("%s: Right(%v): %v", x.what, p, Right(p))
		}
	}
}

// P13.1: each bit of each field of a right state, and each one left out.
func TestRightBits(t *testing.T) {
	for _, p := range []api.Plic{{}, busy(), {Prio: [4]uint32{0, 7, 7, 7}, Enable: [2]uint32{14, 14}, Level: [2]uint32{7, 7}, Claimed: 14}} {
		for field := range 9 {
			for place := range 32 {
				q := p
				fields := []*uint32{
					&q.Prio[0], &q.Prio[1], &q.Prio[2], &q.Prio[3], &q.Enable[0], &q.Enable[1], &q.Level[0], &q.Level[1], &q.Claimed,
				}
				*fields[field] ^= 1 << place
				if got := Right(q); got != rightBy(q) {
					t.Errorf("Right(%v): %v", q, got)
				}
				wantWords(t, q, 14, field%2, places()[place%10].at, 4, uint64(place))
			}
		}
	}
}

// P13.1: each place read, as written down by hand.
func TestKnownLoad(t *testing.T) {
	p := busy()
	claims := func(set uint32) api.Plic { return with(func(p *api.Plic) { p.Claimed = set }) }
	for _, x := range []struct {
		at, want uint64
		behind   api.Plic
	}{
		{0xc000004, 5, p}, {0xc000008, 6, p}, {0xc00000c, 3, p}, {0xc001000, 10, p}, {0xc002000, 14, p}, {0xc002080, 10, p},
		{0xc200000, 2, p}, {0xc201000, 4, p}, {0xc200004, 1, claims(6)}, {0xc201004, 1, claims(6)},
	} {
		wantLoad(t, p, 14, x.at, 4, x.behind, x.want, true)
	}
	wantLoad(t, p, 8, 0xc001000, 4, p, 8, true)
	wantLoad(t, p, 4, 0xc001000, 4, p, 0, true)
	wantLoad(t, p, 8, 0xc200004, 4, claims(12), 3, true)
	wantLoad(t, p, 8, 0xc201004, 4, p, 0, true)
	wantLoad(t, p, 4, 0xc200004, 4, p, 0, true)
	wantLoad(t, p, 0, 0xc201004, 4, p, 0, true)
}

// P13.1: each place that may be written, as written down by hand; nothing but its field changes.
func TestKnownStore(t *testing.T) {
	for _, x := range []struct {
		at, v  uint64
		change func(p *api.Plic)
	}{
		{0xc000004, 1, func(p *api.Plic) { p.Prio[1] = 1 }},
		{0xc000008, 7, func(p *api.Plic) { p.Prio[2] = 7 }},
		{0xc00000c, 0, func(p *api.Plic) { p.Prio[3] = 0 }},
		{0xc000004, 8, func(p *api.Plic) { p.Prio[1] = 0 }},
		{0xc000008, 0xfffffffa, func(p *api.Plic) { p.Prio[2] = 2 }},
		{0xc00000c, 0xffffffff0000000c, func(p *api.Plic) { p.Prio[3] = 4 }},
		{0xc002000, 8, func(p *api.Plic) { p.Enable[0] = 8 }},
		{0xc002080, 6, func(p *api.Plic) { p.Enable[1] = 6 }},
		{0xc002000, 0, func(p *api.Plic) { p.Enable[0] = 0 }},
		{0xc002000, all, func(p *api.Plic) { p.Enable[0] = 14 }},
		{0xc002080, 17, func(p *api.Plic) { p.Enable[1] = 0 }},
		{0xc002080, 2 << 32, func(p *api.Plic) { p.Enable[1] = 0 }},
		{0xc200000, 5, func(p *api.Plic) { p.Level[0] = 5 }},
		{0xc201000, 7, func(p *api.Plic) { p.Level[1] = 7 }},
		{0xc200000, 0xf8, func(p *api.Plic) { p.Level[0] = 0 }},
		{0xc201000, 1<<32 + 9, func(p *api.Plic) { p.Level[1] = 1 }},
		{0xc200004, 2, func(p *api.Plic) { p.Claimed = 0 }},
		{0xc201004, 2, func(p *api.Plic) {}},
		{0xc200004, 1<<32 + 2, func(p *api.Plic) { p.Claimed = 0 }},
		{0xc200004, 1, func(p *api.Plic) {}},
	} {
		wantStore(t, busy(), x.at, 4, x.v, with(x.change), true)
	}
}

// P13.1: each place by numbers with all bits, those above its own and above the low 32 too.
func TestStoreNumbers(t *testing.T) {
	r := rand.New(rand.NewSource(1300))
	for _, x := range places() {
		for _, v := range someNumbers() {
			for _, p := range []api.Plic{{}, busy(), chance(r, true), chance(r, false), with(func(p *api.Plic) { p.Claimed = 14 })} {
				behind, ok := storeBy(p, x.at, 4, v)
				wantStore(t, p, x.at, 4, v, behind, ok)
				wantStore(t, p, x.at, 4, v%(1<<32), behind, ok)
			}
		}
	}
}

// P13.1: a source written back: 0, each of them, and others; enabled for the one, for the other, and not; Claimed and not.
func TestWrittenBack(t *testing.T) {
	for who, at := range []uint64{0xc200004, 0xc201004} {
		for n := range 1 << 12 {
			p := busy()
			p.Enable = [2]uint32{uint32(n & 15), uint32(n >> 4 & 15)}
			p.Claimed = uint32(n >> 8)
			for _, v := range []uint64{0, 1, 2, 3, 4, 5, 6, 7, 14, 31, 32, 33, 34, 35, 36, 63, 64, 65, 66, 1<<31 + 1, 1<<32 - 1, 1<<32 - 2} {
				behind := p
				if v >= 1 && v <= 3 && has(p.Enable[who], int(v)) {
					behind.Claimed &= 1<<32 - 1 - 1<<v
				}
				wantStore(t, p, at, 4, v, behind, true)
				wantStore(t, p, at, 4, v+1<<32, behind, true)
				wantStore(t, p, at, 4, v+0xffffffff<<32, behind, true)
			}
		}
		// Bits of Claimed and Enable that aren't sources stay.
		p := api.Plic{Enable: [2]uint32{1<<32 - 1, 1<<32 - 1}, Claimed: 1<<32 - 1}
		for v := range uint64(70) {
			behind := p
			if v >= 1 && v <= 3 {
				behind.Claimed -= 1 << v
			}
			wantStore(t, p, at, 4, v, behind, true)
		}
	}
}

// P13.1: what may only be read isn't written, whatever the number.
func TestReadAlone(t *testing.T) {
	for _, v := range someNumbers() {
		wantStore(t, busy(), 0xc001000, 4, v, api.Plic{}, false)
		wantStore(t, api.Plic{}, 0xc001000, 4, v, api.Plic{}, false)
	}
}

// P13.1: each place at other sizes.
func TestSizes(t *testing.T) {
	for _, x := range places() {
		for _, size := range someSizes() {
			if size != 4 {
				wantLoad(t, busy(), 14, x.at, size, api.Plic{}, 0, false)
				wantStore(t, busy(), x.at, size, 2, api.Plic{}, false)
			}
			wantWords(t, busy(), 14, 0, x.at, size, 2)
		}
	}
}

// P13.1: the bytes and places beside each place, and such as have its low bits.
func TestBeside(t *testing.T) {
	for _, x := range places() {
		for d := uint64(1); d < 64; d++ {
			wantWords(t, busy(), 14, 1, x.at+d, 4, 2)
			wantWords(t, busy(), 14, 1, x.at-d, 4, 2)
			wantWords(t, busy(), 14, 1, x.at^1<<d, 4, 2)
		}
		for _, at := range []uint64{x.at + 1, x.at - 1, x.at + 2, x.at - 2, x.at + 3, x.at - 3, x.at + 1<<32, x.at + 1<<63, x.at - 0xc000000, x.at + 0x400000} {
			wantLoad(t, busy(), 14, at, 4, api.Plic{}, 0, false)
			wantStore(t, busy(), at, 4, 2, api.Plic{}, false)
		}
	}
	for _, at := range []uint64{
		0, 4, 1 << 31, all, all - 3, 0xc000000, 0xc000010, 0xc001004, 0xc001008, 0xc001080, 0xc002004, 0xc002040, 0xc002084, 0xc002100,
		0xc003000, 0xc200008, 0xc200080, 0xc200ffc, 0xc201008, 0xc202000, 0xc202004, 0xc400000, 0xc400004, 0x2000000, 0x10000000,
	} {
		wantLoad(t, busy(), 14, at, 4, api.Plic{}, 0, false)
		wantStore(t, busy(), at, 4, 2, api.Plic{}, false)
	}
}

// P13.1: of all addresses that are the chapter's, the ten places and no others.
func TestAllAddresses(t *testing.T) {
	p := busy()
	var read, written, list []uint64
	for at := uint64(0xc000000); at < 0xc400000; at++ {
		if _, _, ok := Load(p, 14, at, 4); ok {
			read = append(read, at)
		}
		if _, ok := Store(p, at, 4, 1); ok {
			written = append(written, at)
		}
	}
	for _, x := range places() {
		list = append(list, x.at)
	}
	if !slices.Equal(read, list) {
		t.Errorf("read: %x, want %x", read, list)
	}
	list = slices.DeleteFunc(list, func(at uint64) bool { return at == 0xc001000 })
	if !slices.Equal(written, list) || len(list) != 9 {
		t.Errorf("written: %x, want %x", written, list)
	}
}

// P13.1: right states and wrong ones, held against the chapter's words.
func TestByChance(t *testing.T) {
	r := rand.New(rand.NewSource(1310))
	list := places()
	for n := range 1 << 17 {
		p, x := chance(r, n%2 == 0), list[r.Intn(10)]
		sources := r.Uint32()
		if r.Intn(2) == 0 {
			sources &= 14
		}
		v := r.Uint64() >> r.Intn(64)
		if r.Intn(2) == 0 {
			v = uint64(r.Intn(6))
		}
		wantWords(t, p, sources, r.Intn(4)-1, x.at, 4, v)
	}
}

// P13.2: the claims, as written down by hand: both of the two claim, in turn, and write back.
func TestKnownClaims(t *testing.T) {
	p := api.Plic{Prio: [4]uint32{0, 4, 6, 4}, Enable: [2]uint32{14, 10}, Level: [2]uint32{1, 3}}
	for i, x := range []struct {
		at, v   uint64
		write   bool
		sources uint32
		want    uint64
		claimed uint32
	}{
		{at: 0xc200004, sources: 14, want: 2, claimed: 4},
		{at: 0xc201004, sources: 14, want: 1, claimed: 6},
		{at: 0xc201004, sources: 14, want: 3, claimed: 14},
		{at: 0xc201004, sources: 14, want: 0, claimed: 14},
		{at: 0xc200004, sources: 14, want: 0, claimed: 14},
		{at: 0xc001000, sources: 14, want: 0, claimed: 14},
		{at: 0xc201004, v: 2, write: true, claimed: 14},
		{at: 0xc201004, v: 0, write: true, claimed: 14},
		{at: 0xc200004, v: 4, write: true, claimed: 14},
		{at: 0xc201004, v: 3, write: true, claimed: 6},
		{at: 0xc001000, sources: 14, want: 8, claimed: 6},
		{at: 0xc200004, sources: 14, want: 3, claimed: 14},
		{at: 0xc200004, v: 1, write: true, claimed: 12},
		{at: 0xc200004, v: 1, write: true, claimed: 12},
		{at: 0xc201004, sources: 12, want: 0, claimed: 12},
		{at: 0xc201004, sources: 14, want: 1, claimed: 14},
		{at: 0xc200004, v: 2, write: true, claimed: 10},
		{at: 0xc200004, sources: 10, want: 0, claimed: 10},
		{at: 0xc200004, sources: 14, want: 2, claimed: 14},
	} {
		behind := p
		behind.Claimed = x.claimed
		if x.write {
			wantStore(t, p, x.at, 4, x.v, behind, true)
		} else {
			wantLoad(t, p, x.sources, x.at, 4, behind, x.want, true)
		}
		if t.Failed() {
			t.Fatalf("step %d", i)
		}
		p = behind
	}
}

// P13.2: each of the two read and written back: the state is the same again, and so are both Bests, if it still waits; till
// then it is Best of neither, and those that it stood in front of come.
func TestClaimAndBack(t *testing.T) {
	r := rand.New(rand.NewSource(1320))
	claimed := map[string]int{}
	for range 1 << 15 {
		p, who, sources := chance(r, r.Intn(4) != 0), r.Intn(2), r.Uint32()
		at := []uint64{0xc200004, 0xc201004}[who]
		best := Best(p, sources, who)
		during, n, ok := Load(p, sources, at, 4)
		if !ok || n != uint64(best) || during != p && best == 0 {
			t.Fatalf("Load(%v, %x, %x): %v, %d, %v, and Best is %d", p, sources, at, during, n, ok, best)
		}
		claimed[fmt.Sprint(who, best)]++
		if best == 0 {
			continue
		}
		if during.Claimed != p.Claimed+1<<best {
			t.Errorf("claimed %d of %v: %v", best, p, during)
		}
		for one := range 2 {
			if got := Best(during, sources, one); got == best || got != Best(p, sources&^(1<<best), one) {
				t.Errorf("Best(%v, %x, %d): %d, while %d is claimed", during, sources, one, got, best)
			}
		}
		after, ok := Store(during, at, 4, n)
		if !ok || after != p {
			t.Fatalf("Store(%v, %x, %d): %v, %v, want %v", during, at, n, after, ok, p)
		}
		wantBest(t, after, sources, who, best)
		gone := sources &^ (1 << best)
		wantBest(t, after, gone, who, bestBy(p, gone, who))
	}
	for who := range 2 {
		for n := range 4 {
			if claimed[fmt.Sprint(who, n)] < 100 {
				t.Errorf("claimed: %v", claimed)
			}
		}
	}
}

// P13.2: what was claimed isn't Best of either whatever else is done, till one that has it enabled writes it back.
func TestClaimedOnce(t *testing.T) {
	r := rand.New(rand.NewSource(1321))
	list := places()
	back := 0
	for range 1 << 9 {
		p := chance(r, true)
		held := map[int]bool{1: has(p.Claimed, 1), 2: has(p.Claimed, 2), 3: has(p.Claimed, 3)}
		for range 1 << 9 {
			sources, x, v := r.Uint32(), list[r.Intn(10)], uint64(r.Intn(15))
			claim := x.at == 0xc200004 || x.at == 0xc201004
			who := int(x.at>>12) & 1
			if r.Intn(2) == 0 {
				next, n, ok := Load(p, sources, x.at, 4)
				if !ok {
					t.Fatalf("Load(%v, %x, %x)", p, sources, x.at)
				}
				if claim && n != 0 {
					if held[int(n)] {
						t.Fatalf("claimed %d twice, of %v", n, p)
					}
					held[int(n)] = true
				}
				p = next
			} else if next, ok := Store(p, x.at, 4, v); ok {
				if claim && v >= 1 && v <= 3 && has(p.Enable[who], int(v)) && held[int(v)] {
					held[int(v)] = false
					back++
				}
				p = next
			}
			for n, on := range held {
				if on && (Best(p, 1<<32-1, 0) == n || Best(p, 1<<32-1, 1) == n) || has(p.Claimed, n) != on {
					t.Fatalf("%d: Claimed %v, in %v", n, on, p)
				}
			}
		}
	}
	if back < 1000 {
		t.Errorf("written back: %d times", back)
	}
}

// P13.3: of a right state Load and Store leave right ones, call behind call, and all that may be comes about.
func TestRightStaysRight(t *testing.T) {
	r := rand.New(rand.NewSource(1330))
	list := places()
	seen := map[string]bool{}
	for range 1 << 8 {
		p := chance(r, true)
		for range 1 << 9 {
			was, x, sources, v := p, list[r.Intn(10)], r.Uint32(), r.Uint64()>>r.Intn(64)
			what, ok := "", false
			next := p
			if r.Intn(2) == 0 {
				what = fmt.Sprintf("Load(%v, %x, %x)", was, sources, x.at)
				next, _, ok = Load(p, sources, x.at, 4)
			} else {
				what = fmt.Sprintf("Store(%v, %x, %x)", was, x.at, v)
				next, ok = Store(p, x.at, 4, v)
			}
			if !Right(next) || !rightBy(next) {
				t.Fatalf("%s: %v", what, next)
			}
			if ok {
				p = next
			}
			for who := range 2 {
				seen[fmt.Sprint("enable", who, p.Enable[who])], seen[fmt.Sprint("level", who, p.Level[who])] = true, true
			}
			for n, prio := range p.Prio {
				seen[fmt.Sprint("prio", n, prio)] = true
			}
			seen[fmt.Sprint("claimed", p.Claimed)] = true
		}
	}
	if want := 2*8 + 2*8 + 1 + 3*8 + 8; len(seen) != want {
		t.Errorf("%d ways of fields, want %d: %v", len(seen), want, seen)
	}
	for _, x := range list {
		for _, v := range someNumbers() {
			if next, _ := Store(busy(), x.at, 4, v); !rightBy(next) {
				t.Errorf("Store(%x, %x): %v", x.at, v, next)
			}
		}
	}
}

// P1: all arguments of any kind.
func TestAnything(t *testing.T) {
	r := rand.New(rand.NewSource(1301))
	for range 1 << 14 {
		p := chance(r, false)
		at, size, v := r.Uint64()>>r.Intn(64), int(r.Uint64()>>r.Intn(64)), r.Uint64()
		if r.Intn(2) == 0 {
			at = 0xc000000 + at%0x400000
		}
		if r.Intn(2) == 0 {
			size = -size
		}
		wantWords(t, p, r.Uint32(), int(r.Uint64()), at, size, v)
		wantWords(t, p, r.Uint32(), nobodies()[r.Intn(len(nobodies()))], at, 4, v)
		wantWords(t, p, r.Uint32(), 0, places()[r.Intn(10)].at, someSizes()[r.Intn(len(someSizes()))], v)
	}
}

// P1: the same calls answer the same, in the other order too.
func TestAsksNothingElse(t *testing.T) {
	r := rand.New(rand.NewSource(1302))
	var calls []func() string
	for range 1 << 10 {
		p, sources, who, x, v := chance(r, r.Intn(2) == 0), r.Uint32(), r.Intn(2), places()[r.Intn(10)], r.Uint64()
		calls = append(calls, func() string {
			a, n, ok := Load(p, sources, x.at, 4)
			b, may := Store(p, x.at, 4, v)
			return fmt.Sprint(a, n, ok, b, may, Best(p, sources, who), Lines(p, sources), Right(p))
		})
	}
	var answers []string
	for _, call := range calls {
		answers = append(answers, call())
	}
	for i := len(calls) - 1; i >= 0; i-- {
		if calls[i]() != answers[i] {
			t.Errorf("call %d: another answer", i)
		}
	}
}
