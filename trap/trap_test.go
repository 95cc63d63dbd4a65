package trap

import (
	"math"
	"math/rand"
	"testing"

	"tandem/api"
	"tandem/csr"
)

const all = 1<<64 - 1

// A status is Mstatus taken apart, bit by bit, apart from the program.
type status struct {
	sie, mie, spie, mpie, spp, mprv bool
	mpp                             int
	rest                            uint64
}

// apart: the bits of Mstatus.
func apart(n uint64) status {
	s := status{
		sie: has(n, 1), mie: has(n, 3), spie: has(n, 5), mpie: has(n, 7), spp: has(n, 8), mprv: has(n, 17),
		mpp: int(n / (1 << 11) % 4),
	}
	s.rest = n - s.bits()
	return s
}

// together: Mstatus that has these bits.
func (s status) together() uint64 { return s.rest + s.bits() }

func (s status) bits() uint64 {
	return one(s.sie, 1) + one(s.mie, 3) + one(s.spie, 5) + one(s.mpie, 7) + one(s.spp, 8) + one(s.mprv, 17) +
		uint64(s.mpp)*(1<<11)
}

// has: has the number a bit at this place?
func has(n uint64, place int) bool { return n/(1<<place)%2 == 1 }

// one: the bit at this place, if it is on.
func one(on bool, place int) uint64 {
	if !on {
		return 0
	}
	return 1 << place
}

// order: the interrupts, the first ahead of the others.
func order() []int { return []int{11, 3, 7, 9, 1, 5} }

// isOn: is the interrupt on?
func isOn(h api.Hart, lines uint64, n int) bool {
	return n >= 0 && n < 12 && n%2 == 1 && (has(h.C.Mip, n) || has(lines, n)) && has(h.C.Mie, n)
}

// mayCome: may the upper interrupts, or the lower ones, come?
func mayCome(h api.Hart, lower bool) bool {
	switch {
	case !lower && h.Mode == 3:
		return has(h.C.Mstatus, 3)
	case !lower:
		return true
	case h.Mode > 1:
		return false
	case h.Mode == 1:
		return has(h.C.Mstatus, 1)
	}
	return true
}

// pendingBy: Pending, as the chapter's words tell it, interrupt by interrupt.
func pendingBy(h api.Hart, lines uint64) int {
	for _, lower := range []bool{false, true} {
		for _, n := range order() {
			if isOn(h, lines, n) && has(h.C.Mideleg, n) == lower && mayCome(h, lower) {
				return n
			}
		}
	}
	return -1
}

// takeBy: Take, as the chapter's words tell it.
func takeBy(h api.Hart, cause int, interrupt bool, value uint64) api.Hart {
	if cause < 0 || cause > 63 {
		return h
	}
	after, s := h, apart(h.C.Mstatus)
	after.Held, after.At = false, 0
	told := uint64(cause)
	handed := h.C.Medeleg
	if interrupt {
		told += 1 << 63
		handed = h.C.Mideleg
	}
	if h.Mode <= 1 && has(handed, cause) {
		after.C.Sepc, after.C.Scause, after.C.Stval = h.PC-h.PC%2, told, value
		s.spp, s.spie, s.sie = h.Mode == 1, s.sie, false
		after.Mode, after.PC = 1, entryBy(h.C.Stvec, cause, interrupt)
	} else {
		after.C.Mepc, after.C.Mcause, after.C.Mtval = h.PC-h.PC%2, told, value
		s.mpp, s.mpie, s.mie = lowTwo(h.Mode), s.mie, false
		after.Mode, after.PC = 3, entryBy(h.C.Mtvec, cause, interrupt)
	}
	after.C.Mstatus = s.together()
	return after
}

func entryBy(vector uint64, cause int, interrupt bool) uint64 {
	if interrupt && vector%2 == 1 {
		return vector - vector%4 + 4*uint64(cause)
	}
	return vector - vector%4
}

// lowTwo: the mode's low two bits, below 0 too.
func lowTwo(mode int) int { return (mode%4 + 4) % 4 }

// mretBy: Mret, as the chapter's words tell it.
func mretBy(h api.Hart) (api.Hart, bool) {
	if h.Mode != 3 {
		return h, false
	}
	s := apart(h.C.Mstatus)
	h.Mode, h.PC = s.mpp, h.C.Mepc
	s.mie, s.mpie = s.mpie, true
	s.mprv = s.mprv && s.mpp == 3
	s.mpp = 0
	h.C.Mstatus = s.together()
	return h, true
}

// sretBy: Sret, as the chapter's words tell it.
func sretBy(h api.Hart) (api.Hart, bool) {
	if h.Mode < 1 {
		return h, false
	}
	s := apart(h.C.Mstatus)
	h.Mode, h.PC = 0, h.C.Sepc
	if s.spp {
		h.Mode = 1
	}
	s.sie, s.spie, s.spp, s.mprv = s.spie, true, false, false
	h.C.Mstatus = s.together()
	return h, true
}

// fields: all control registers.
func fields(c *api.Csr) []*uint64 {
	return []*uint64{
		&c.Mstatus, &c.Medeleg, &c.Mideleg, &c.Mie, &c.Mip, &c.Mtvec, &c.Mscratch, &c.Mepc, &c.Mcause, &c.Mtval,
		&c.Stvec, &c.Sscratch, &c.Sepc, &c.Scause, &c.Stval, &c.Satp,
	}
}

// filled: a processor that holds n in all registers.
func filled(mode int, n uint64) api.Hart {
	h := api.Hart{PC: n, Mode: mode, Held: n != 0, At: n}
	for i := range h.X {
		h.X[i] = n
	}
	for _, p := range fields(&h.C) {
		*p = n
	}
	return h
}

// chance: a processor of any kind; its mode is one that is there, or any other.
func chance(r *rand.Rand) api.Hart {
	h := filled(r.Intn(7)-2, 0)
	h.PC, h.Held, h.At = r.Uint64(), r.Intn(2) == 0, r.Uint64()
	for i := range h.X {
		h.X[i] = r.Uint64()
	}
	for _, p := range fields(&h.C) {
		*p = r.Uint64()
	}
	return h
}

// chanceRight: a processor that may be.
func chanceRight(r *rand.Rand) api.Hart {
	h := chance(r)
	h.X[0], h.PC, h.Mode, h.C = 0, h.PC&^1, rightModes()[r.Intn(3)], api.Csr{}
	if !h.Held {
		h.At = 0
	}
	for _, num := range []int{
		0x300, 0x302, 0x303, 0x304, 0x305, 0x340, 0x341, 0x342, 0x343, 0x344, 0x105, 0x140, 0x141, 0x142, 0x143,
	} {
		h.C, _ = csr.Write(h.C, api.Boss, num, r.Uint64())
	}
	h.C, _ = csr.Write(h.C, api.Boss, 0x180, r.Uint64()>>4|uint64(r.Intn(2))<<63)
	return h
}

func rightModes() []int { return []int{api.User, api.Supervisor, api.Boss} }

// someModes: the modes, the number between them that is none, and others.
func someModes() []int {
	return []int{math.MinInt, -4, -3, -2, -1, 0, 1, 2, 3, 4, 5, 6, 7, 257, math.MaxInt}
}

// someCauses: all causes, and numbers that are none.
func someCauses() []int {
	list := []int{
		math.MinInt, math.MinInt32, -128, -65, -64, -63, -9, -8, 64, 65, 66, 72, 127, 128, 200, 256, 264, math.MaxInt32,
		1<<32 + 8, math.MinInt + 8, math.MaxInt,
	}
	for cause := -1; cause <= 63; cause++ {
		list = append(list, cause)
	}
	return list
}

func wantPending(t *testing.T, h api.Hart, lines uint64, want int) {
	t.Helper()
	if n := Pending(h, lines); n != want {
		t.Errorf("Pending(mode %d, %+v, %x): %d, want %d", h.Mode, h.C, lines, n, want)
	}
}

func wantTake(t *testing.T, h api.Hart, cause int, interrupt bool, value uint64, want api.Hart) {
	t.Helper()
	if after := Take(h, cause, interrupt, value); after != want {
		t.Errorf("Take(%+v, %d, %v, %x): %+v, want %+v", h, cause, interrupt, value, after, want)
	}
}

func wantMret(t *testing.T, h, want api.Hart, may bool) {
	t.Helper()
	if after, ok := Mret(h); after != want || ok != may {
		t.Errorf("Mret(%+v): %+v, %v, want %+v, %v", h, after, ok, want, may)
	}
}

func wantSret(t *testing.T, h, want api.Hart, may bool) {
	t.Helper()
	if after, ok := Sret(h); after != want || ok != may {
		t.Errorf("Sret(%+v): %+v, %v, want %+v, %v", h, after, ok, want, may)
	}
}

// wantBoth: both ways back answer as the chapter's words tell them.
func wantBoth(t *testing.T, h api.Hart) {
	t.Helper()
	want, may := mretBy(h)
	wantMret(t, h, want, may)
	want, may = sretBy(h)
	wantSret(t, h, want, may)
}

// P10.1: the chapter's example.
func TestExample(t *testing.T) {
	h := Take(api.Hart{Mode: api.User, C: api.Csr{Medeleg: 1 << 8}}, 8, false, 0)
	if h.Mode != api.Supervisor || h.C.Scause != 8 {
		t.Errorf("mode %d, Scause %x", h.Mode, h.C.Scause)
	}
}

// P10.1: what comes now, as written down by hand: one interrupt in each mode, handed down and not, with MIE and SIE.
func TestKnownPending(t *testing.T) {
	for _, x := range []struct {
		mode            int
		status, handed  uint64
		mip, lines, mie uint64
		want            int
	}{
		{mode: 0, lines: 0x800, mie: 0x800, want: 11},
		{mode: 1, lines: 0x800, mie: 0x800, want: 11},
		{mode: 3, lines: 0x800, mie: 0x800, want: -1},
		{mode: 3, status: 8, lines: 0x800, mie: 0x800, want: 11},
		{mode: 3, status: 2, lines: 0x800, mie: 0x800, want: -1},
		{mode: 1, status: 8, lines: 0x200, mie: 0x200, want: 9},
		{mode: 1, lines: 0x200, mie: 0x200, want: 9},
		{mode: 0, handed: 0x200, lines: 0x200, mie: 0x200, want: 9},
		{mode: 1, handed: 0x200, lines: 0x200, mie: 0x200, want: -1},
		{mode: 1, status: 8, handed: 0x200, lines: 0x200, mie: 0x200, want: -1},
		{mode: 1, status: 2, handed: 0x200, lines: 0x200, mie: 0x200, want: 9},
		{mode: 3, status: 0xa, handed: 0x200, lines: 0x200, mie: 0x200, want: -1},
		{mode: 3, status: 8, handed: 0x20, mip: 2, mie: 2, want: 1},
		{mode: 0, mip: 0x20, mie: 0x20, want: 5},
		{mode: 0, mip: 0x20, want: -1},
		{mode: 0, mie: 0xaaa, want: -1},
		{mode: 0, mip: 0x555, lines: ^uint64(0xaaa), mie: all, want: -1},
		// Several: each goes ahead of those behind it in the chapter's list, but the upper ones ahead of all lower ones.
		{mode: 0, mip: 0xaaa, mie: 0xaaa, want: 11},
		{mode: 0, mip: 0x2aa, mie: 0xaaa, want: 3},
		{mode: 0, mip: 0x2a2, mie: 0xaaa, want: 7},
		{mode: 0, mip: 0x222, mie: 0xaaa, want: 9},
		{mode: 0, mip: 0x22, mie: 0xaaa, want: 1},
		{mode: 0, handed: 0x222, mip: 0x222, lines: 0x80, mie: 0xaaa, want: 7},
		{mode: 0, handed: 0x200, mip: 0x220, mie: 0xaaa, want: 5},
		{mode: 0, handed: 0x222, mip: 0x222, mie: 0xaaa, want: 9},
		{mode: 1, status: 2, handed: 0x222, mip: 0x22, mie: 0xaaa, want: 1},
		{mode: 1, handed: 0x222, mip: 0x222, lines: 8, mie: 0xaaa, want: 3},
		{mode: 1, handed: 0x200, mip: 0x222, mie: 0xaaa, want: 1},
		{mode: 3, status: 2, handed: 0x222, mip: 0xaaa, mie: 0xaaa, want: -1},
		{mode: 3, status: 8, handed: 0xaa2, mip: 0xaaa, mie: 0xaaa, want: 3},
	} {
		h := api.Hart{Mode: x.mode, C: api.Csr{Mstatus: x.status, Mideleg: x.handed, Mip: x.mip, Mie: x.mie}}
		wantPending(t, h, x.lines, x.want)
	}
}

// statuses: MIE and SIE off and on, and all other bits of Mstatus off and on.
func statuses() []uint64 {
	return []uint64{0, 2, 8, 0xa, all - 0xa, all - 8, all - 2, all}
}

// P10.1: each bit alone, by Mip, by the lines and by both, with Mie and without, in every mode, with MIE and SIE off and
// on, handed down and not.
func TestPendingAlone(t *testing.T) {
	for place := range 64 {
		bit := uint64(1) << place
		for _, mode := range someModes() {
			for _, s := range statuses() {
				for _, handed := range []uint64{0, bit, all - bit, all} {
					h := api.Hart{Mode: mode, C: api.Csr{Mstatus: s, Mideleg: handed, Mie: bit}}
					wantPending(t, h, 0, -1)
					wantPending(t, h, all-bit, -1)
					want := pendingBy(h, bit)
					wantPending(t, h, bit, want)
					wantPending(t, h, all, want)
					h.C.Mip = bit
					wantPending(t, h, 0, want)
					wantPending(t, h, bit, want)
					h.C.Mie = all - bit
					wantPending(t, h, bit, -1)
					h.C.Mie = all
					wantPending(t, h, 0, want)
				}
			}
		}
	}
}

// spread: the interrupts by the low six bits of a number.
func spread(n int) (set uint64) {
	for i := range 6 {
		set += one(n>>i&1 == 1, 2*i+1)
	}
	return set
}

// P10.1: several at once: all sets that are on and all that are handed down, in every mode, with MIE and SIE off and on.
func TestPendingSeveral(t *testing.T) {
	for _, mode := range []int{-1, 0, 1, 2, 3, 4} {
		for _, s := range []uint64{0, 2, 8, 0xa} {
			for on := range 64 {
				for handed := range 64 {
					h := api.Hart{Mode: mode, C: api.Csr{Mstatus: s, Mideleg: spread(handed), Mip: spread(on), Mie: all}}
					want := pendingBy(h, 0)
					wantPending(t, h, 0, want)
					h.C.Mip, h.C.Mie = 0, spread(on)
					wantPending(t, h, all, want)
				}
			}
		}
	}
}

// P10.1: right processors and wrong ones, held against the chapter's words.
func TestPendingByChance(t *testing.T) {
	r := rand.New(rand.NewSource(1010))
	for range 1 << 16 {
		h := chance(r)
		if r.Intn(2) == 0 {
			h = chanceRight(r)
		}
		lines := r.Uint64() & r.Uint64() & r.Uint64()
		wantPending(t, h, lines, pendingBy(h, lines))
	}
}

// P10.3: Pending is -1, or an interrupt that is on; and with none that is on, or none allowed by Mie, -1.
func TestOnlyWhatIsOn(t *testing.T) {
	r := rand.New(rand.NewSource(1030))
	came := map[int]int{}
	for range 1 << 16 {
		h := chance(r)
		if r.Intn(2) == 0 {
			h = chanceRight(r)
		}
		h.C.Mip &= r.Uint64() & r.Uint64()
		lines := r.Uint64() & r.Uint64() & r.Uint64()
		n := Pending(h, lines)
		came[n]++
		if n != -1 && !isOn(h, lines, n) {
			t.Errorf("Pending(mode %d, %+v, %x): %d is not on", h.Mode, h.C, lines, n)
		}
		if n != -1 {
			h.C.Mie -= 1 << n
			if again := Pending(h, lines); again == n {
				t.Errorf("Pending(mode %d, %+v, %x): %d, that Mie hasn't", h.Mode, h.C, lines, again)
			}
		}
		h.C.Mip, lines = h.C.Mip&^0xaaa, lines&^0xaaa
		wantPending(t, h, lines, -1)
	}
	for _, n := range append(order(), -1) {
		if came[n] == 0 {
			t.Errorf("%d never came", n)
		}
	}
}

// P10.1: a trap that isn't handed down, from each mode, as written down by hand.
func TestKnownTakeToUpper(t *testing.T) {
	for mode, mpp := range map[int]uint64{0: 0, 1: 0x800, 3: 0x1800} {
		h := api.Hart{
			PC: 0x80000123, Mode: mode, Held: true, At: 0x80000040, X: [32]uint64{5: 55, 31: 3131},
			C: api.Csr{Mstatus: 0xe012a, Mtvec: 0x80001001, Stvec: 0x80002001, Mscratch: 4, Sepc: 6, Scause: 7, Stval: 9},
		}
		want := h
		want.Held, want.At, want.Mode, want.PC = false, 0, 3, 0x80001000
		want.C.Mepc, want.C.Mcause, want.C.Mtval = 0x80000122, 2, 77
		want.C.Mstatus = 0xe01a2 + mpp
		wantTake(t, h, 2, false, 77, want)
		want.PC, want.C.Mcause = 0x8000102c, 0x800000000000000b
		wantTake(t, h, 11, true, 77, want)
		h.C.Mtvec = 0x80001000
		want.PC, want.C.Mtvec = 0x80001000, 0x80001000
		wantTake(t, h, 11, true, 77, want)
	}
}

// P10.1: a trap and an interrupt that are handed down, as written down by hand.
func TestKnownTakeToMiddle(t *testing.T) {
	for mode, spp := range map[int]uint64{0: 0, 1: 0x100} {
		h := api.Hart{
			PC: 0x80000123, Mode: mode, Held: true, At: 0x80000040, X: [32]uint64{5: 55, 31: 3131},
			C: api.Csr{
				Mstatus: 0xe188a, Medeleg: 1 << 12, Mideleg: 1 << 9, Mtvec: 0x80001001, Stvec: 0x80002001, Sscratch: 4,
				Mepc: 6, Mcause: 7, Mtval: 9,
			},
		}
		want := h
		want.Held, want.At, want.Mode, want.PC = false, 0, 1, 0x80002000
		want.C.Sepc, want.C.Scause, want.C.Stval = 0x80000122, 12, 77
		want.C.Mstatus = 0xe18a8 + spp
		wantTake(t, h, 12, false, 77, want)
		want.PC, want.C.Scause = 0x80002024, 0x8000000000000009
		wantTake(t, h, 9, true, 77, want)
		h.C.Stvec = 0x80002000
		want.PC, want.C.Stvec = 0x80002000, 0x80002000
		wantTake(t, h, 9, true, 77, want)
	}
}

// P10.1: where a cause goes: each cause, from each mode, as a trap and as an interrupt, with its bit alone and with all
// others alone.
func TestWhereItGoes(t *testing.T) {
	for cause := range 64 {
		bit := uint64(1) << cause
		for _, mode := range someModes() {
			for _, interrupt := range []bool{false, true} {
				for _, handed := range []uint64{0, bit, all - bit, all} {
					h := api.Hart{Mode: mode, C: api.Csr{Medeleg: handed, Mideleg: all - handed}}
					if interrupt {
						h.C.Medeleg, h.C.Mideleg = h.C.Mideleg, h.C.Medeleg
					}
					want := 3
					if mode <= 1 && has(handed, cause) {
						want = 1
					}
					after := Take(h, cause, interrupt, 5)
					if after.Mode != want || (after.C.Stval == 5) != (want == 1) || (after.C.Mtval == 5) != (want == 3) {
						t.Errorf("cause %d, interrupt %v, mode %d, handed %x: %+v", cause, interrupt, mode, handed, after)
					}
					wantTake(t, h, cause, interrupt, 5, takeBy(h, cause, interrupt, 5))
				}
			}
		}
	}
}

// P10.1: where the program for traps begins, with the low bits of both vectors in all ways, and where it wraps round.
func TestVectors(t *testing.T) {
	for _, base := range []uint64{0, 4, 0x80000000, 0xfffffffffffffffc, 0xffffffffffffff80} {
		for low := range uint64(4) {
			for cause := range 64 {
				upper := api.Hart{Mode: api.Boss, C: api.Csr{Mtvec: base + low, Stvec: 0x44441, Medeleg: all, Mideleg: all}}
				middle := api.Hart{C: api.Csr{Stvec: base + low, Mtvec: 0x44441, Medeleg: all, Mideleg: all}}
				place := base
				if low%2 == 1 {
					place += uint64(cause) * 4
				}
				for _, h := range []api.Hart{upper, middle} {
					if pc := Take(h, cause, false, 1).PC; pc != base {
						t.Errorf("trap %d by %x: %x", cause, base+low, pc)
					}
					if pc := Take(h, cause, true, 1).PC; pc != place {
						t.Errorf("interrupt %d by %x: %x, want %x", cause, base+low, pc, place)
					}
				}
			}
		}
	}
}

// P10.1: a number that is no cause changes nothing, the reservation neither.
func TestNoCause(t *testing.T) {
	r := rand.New(rand.NewSource(1011))
	for _, cause := range someCauses() {
		if cause >= 0 && cause <= 63 {
			continue
		}
		for _, h := range []api.Hart{filled(0, all), filled(1, all), filled(3, all), chance(r), chanceRight(r)} {
			h.Held, h.At = true, 0x80000008
			wantTake(t, h, cause, false, r.Uint64(), h)
			wantTake(t, h, cause, true, r.Uint64(), h)
		}
	}
}

// P10.1: all causes in all modes, on right processors and wrong ones, held against the chapter's words.
func TestTakeByChance(t *testing.T) {
	r := rand.New(rand.NewSource(1012))
	for _, cause := range someCauses() {
		for _, interrupt := range []bool{false, true} {
			for _, mode := range someModes() {
				for _, h := range []api.Hart{filled(mode, 0), filled(mode, all), chance(r), chance(r)} {
					h.Mode = mode
					value := r.Uint64()
					wantTake(t, h, cause, interrupt, value, takeBy(h, cause, interrupt, value))
				}
			}
			for range 64 {
				h, value := chanceRight(r), r.Uint64()
				wantTake(t, h, cause, interrupt, value, takeBy(h, cause, interrupt, value))
			}
		}
	}
}

// P10.1: each bit of Mstatus alone and left out alone: only those that the chapter names change.
func TestStatusBits(t *testing.T) {
	for place := range 64 {
		for _, s := range []uint64{1 << place, all - 1<<place} {
			for _, mode := range someModes() {
				h := api.Hart{Mode: mode, PC: 6, C: api.Csr{Mstatus: s, Medeleg: 2, Mideleg: 2, Mepc: 10, Sepc: 12}}
				for cause := range 3 {
					wantTake(t, h, cause, false, 1, takeBy(h, cause, false, 1))
					wantTake(t, h, cause, true, 1, takeBy(h, cause, true, 1))
				}
				wantBoth(t, h)
			}
		}
	}
}

// P10.1: the upper mode's way back, as written down by hand: MPP of each mode, MPRV, MPIE and MIE.
func TestKnownMret(t *testing.T) {
	for _, x := range []struct {
		was, now uint64
		mode     int
	}{
		{0, 0x80, 0},
		{0x80, 0x88, 0},
		{0x8, 0x80, 0},
		{0x88, 0x88, 0},
		{0x800, 0x80, 1},
		{0x1800, 0x80, 3},
		{0x20000, 0x80, 0},
		{0x20800, 0x80, 1},
		{0x21800, 0x20080, 3},
		{0xe19aa, 0xe01aa, 3},
		{0xe09aa, 0xc01aa, 1},
		{0xe01aa, 0xc01aa, 0},
		// A mode that isn't there.
		{0x21080, 0x88, 2},
	} {
		h := api.Hart{
			PC: 0x80000004, Mode: api.Boss, Held: true, At: 8, X: [32]uint64{7: 77},
			C: api.Csr{Mstatus: x.was, Mepc: 0x80000102, Sepc: 0x80000202, Mcause: 5},
		}
		want := h
		want.PC, want.Mode, want.C.Mstatus = 0x80000102, x.mode, x.now
		wantMret(t, h, want, true)
	}
}

// P10.1: the middle mode's way back, as written down by hand: SPP, MPRV, SPIE and SIE, from both modes that may.
func TestKnownSret(t *testing.T) {
	for _, x := range []struct {
		was, now uint64
		mode     int
	}{
		{0, 0x20, 0},
		{0x20, 0x22, 0},
		{0x2, 0x20, 0},
		{0x22, 0x22, 0},
		{0x100, 0x20, 1},
		{0x120, 0x22, 1},
		{0x20000, 0x20, 0},
		{0x20100, 0x20, 1},
		{0xe19aa, 0xc18aa, 1},
		{0xe18aa, 0xc18aa, 0},
	} {
		for _, mode := range []int{api.Supervisor, api.Boss} {
			h := api.Hart{
				PC: 0x80000004, Mode: mode, Held: true, At: 8, X: [32]uint64{7: 77},
				C: api.Csr{Mstatus: x.was, Mepc: 0x80000102, Sepc: 0x80000202, Scause: 5},
			}
			want := h
			want.PC, want.Mode, want.C.Mstatus = 0x80000202, x.mode, x.now
			wantSret(t, h, want, true)
		}
	}
}

// P10.1: modes that may not go back: false, and nothing changes.
func TestMayNot(t *testing.T) {
	r := rand.New(rand.NewSource(1013))
	for _, mode := range someModes() {
		for _, h := range []api.Hart{filled(mode, 0), filled(mode, all), chance(r), chanceRight(r)} {
			h.Mode = mode
			if mode != 3 {
				wantMret(t, h, h, false)
			}
			if mode < 1 {
				wantSret(t, h, h, false)
			}
			_, upper := Mret(h)
			_, middle := Sret(h)
			if upper != (mode == 3) || middle != (mode >= 1) {
				t.Errorf("mode %d: Mret %v, Sret %v", mode, upper, middle)
			}
		}
	}
}

// P10.1: the ways back, on right processors and wrong ones, held against the chapter's words; all ways of Mstatus' bits.
func TestBackByChance(t *testing.T) {
	r := rand.New(rand.NewSource(1014))
	for range 1 << 14 {
		wantBoth(t, chance(r))
		wantBoth(t, chanceRight(r))
	}
	for _, mode := range someModes() {
		for n := range 1 << 8 {
			bits := [...]bool{n&1 != 0, n&2 != 0, n&4 != 0, n&8 != 0, n&16 != 0, n&32 != 0}
			s := status{bits[0], bits[1], bits[2], bits[3], bits[4], bits[5], n >> 6, 0}
			h := filled(mode, r.Uint64())
			h.C.Mstatus = s.together()
			wantBoth(t, h)
			s.rest = all - status{true, true, true, true, true, true, 3, 0}.together()
			h.C.Mstatus = s.together()
			wantBoth(t, h)
		}
	}
}

// back: the way back of the mode that the processor is in.
func back(h api.Hart) (api.Hart, bool) {
	if h.Mode == api.Boss {
		return Mret(h)
	}
	return Sret(h)
}

// P10.2: of a right processor Take and the way back leave mode, PC, the mode's own interrupt bit and all registers.
func TestThereAndBack(t *testing.T) {
	r := rand.New(rand.NewSource(1020))
	went := map[[2]int]int{}
	for range 1 << 9 {
		for cause := range 64 {
			h := chanceRight(r)
			if r.Intn(4) == 0 {
				h.C.Medeleg |= 1 << cause & 0xb3ff
			}
			there := Take(h, cause, r.Intn(2) == 0, r.Uint64())
			went[[2]int{h.Mode, there.Mode}]++
			own := 3
			if there.Mode == api.Supervisor {
				own = 1
			}
			if has(there.C.Mstatus, own) || there.Held || there.At != 0 {
				t.Errorf("Take of %d of %+v: %+v", cause, h, there)
			}
			again, ok := back(there)
			if !ok || again.Mode != h.Mode || again.PC != h.PC || again.X != h.X ||
				has(again.C.Mstatus, own) != has(h.C.Mstatus, own) {
				t.Errorf("there and back by %d of %+v: %+v, %v", cause, h, again, ok)
			}
		}
	}
	for _, way := range [][2]int{{0, 1}, {0, 3}, {1, 1}, {1, 3}, {3, 3}} {
		if went[way] == 0 || len(went) != 5 {
			t.Errorf("ways: %v", went)
		}
	}
}

// P10.2: a trap within a trap that the program put by: both ways back, and all is as it was.
func TestTwiceThereAndBack(t *testing.T) {
	r := rand.New(rand.NewSource(1021))
	for range 1 << 12 {
		h := chanceRight(r)
		h.Mode, h.C.Mideleg, h.C.Medeleg = rightModes()[r.Intn(2)], 0x222, 1<<8
		middle := Take(h, 8, false, 0)
		upper := Take(middle, 11, true, 0)
		if middle.Mode != api.Supervisor || upper.Mode != api.Boss {
			t.Fatalf("modes %d, %d", middle.Mode, upper.Mode)
		}
		again, ok := Mret(upper)
		if !ok || again.Mode != middle.Mode || again.PC != middle.PC {
			t.Errorf("back to the middle of %+v: %+v, %v", middle, again, ok)
		}
		again, ok = Sret(again)
		if !ok || again.Mode != h.Mode || again.PC != h.PC || again.X != h.X ||
			has(again.C.Mstatus, 1) != has(h.C.Mstatus, 1) || has(again.C.Mstatus, 3) != has(h.C.Mstatus, 3) {
			t.Errorf("back to the lower of %+v: %+v, %v", h, again, ok)
		}
	}
}

// P10.1: of a right processor each call leaves a right one, since it writes only what the registers may hold.
func TestRightStaysRight(t *testing.T) {
	r := rand.New(rand.NewSource(1022))
	for range 1 << 13 {
		h := chanceRight(r)
		upper, _ := Mret(h)
		middle, _ := Sret(h)
		for _, after := range []api.Hart{Take(h, r.Intn(64), r.Intn(2) == 0, r.Uint64()), upper, middle} {
			if !csr.Right(after.C) || after.PC%2 != 0 || after.Mode != 0 && after.Mode != 1 && after.Mode != 3 {
				t.Errorf("of %+v: %+v", h, after)
			}
		}
	}
}

// P1 of DOC.md: the calls hang on their arguments alone.
func TestAsksNothingElse(t *testing.T) {
	type call struct {
		h            api.Hart
		lines, value uint64
		cause        int
		interrupt    bool
	}
	type answer struct {
		pending             int
		taken, upper, lower api.Hart
		mayUpper, mayLower  bool
	}
	ask := func(x call) (a answer) {
		a.pending = Pending(x.h, x.lines)
		a.taken = Take(x.h, x.cause, x.interrupt, x.value)
		a.upper, a.mayUpper = Mret(x.h)
		a.lower, a.mayLower = Sret(x.h)
		return a
	}
	r := rand.New(rand.NewSource(1040))
	var calls []call
	var first []answer
	for range 4096 {
		x := call{chance(r), r.Uint64(), r.Uint64(), r.Intn(70) - 3, r.Intn(2) == 0}
		if r.Intn(2) == 0 {
			x.h = chanceRight(r)
		}
		calls, first = append(calls, x), append(first, ask(x))
	}
	for i := len(calls) - 1; i >= 0; i-- {
		if a := ask(calls[i]); a != first[i] {
			t.Errorf("%+v: %+v, and before %+v", calls[i], a, first[i])
		}
	}
}
