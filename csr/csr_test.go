package csr

import (
	"math"
	"math/rand"
	"testing"

	"tandem/api"
)

// A row is a register told apart from the program: by what its number says of modes, written down by hand, and bit by
// bit.
type row struct {
	num   int
	least int // the least mode that may read it
	fixed bool
	read  func(c api.Csr, lines, count uint64) uint64
	write func(c *api.Csr, v uint64)
}

// rows: all registers that are there.
func rows() []row {
	return []row{
		{0x100, 1, false,
			func(c api.Csr, _, _ uint64) uint64 { return pick(c.Mstatus, 1, 5, 8, 18, 19) },
			func(c *api.Csr, v uint64) { lay(&c.Mstatus, v, 1, 5, 8, 18, 19) }},
		{0x104, 1, false,
			func(c api.Csr, _, _ uint64) uint64 { return pick(c.Mie, places(c.Mideleg)...) },
			func(c *api.Csr, v uint64) { lay(&c.Mie, v, places(c.Mideleg)...) }},
		whole(0x105, 1, func(c *api.Csr) *uint64 { return &c.Stvec }, but(1)),
		whole(0x140, 1, func(c *api.Csr) *uint64 { return &c.Sscratch }, but()),
		whole(0x141, 1, func(c *api.Csr) *uint64 { return &c.Sepc }, but(0)),
		whole(0x142, 1, func(c *api.Csr) *uint64 { return &c.Scause }, but()),
		whole(0x143, 1, func(c *api.Csr) *uint64 { return &c.Stval }, but()),
		{0x144, 1, false,
			func(c api.Csr, lines, _ uint64) uint64 { return pick(come(c, lines), places(c.Mideleg)...) },
			func(c *api.Csr, v uint64) {
				if c.Mideleg&2 == 2 {
					lay(&c.Mip, v, 1)
				}
			}},
		{0x180, 1, false,
			func(c api.Csr, _, _ uint64) uint64 { return c.Satp },
			func(c *api.Csr, v uint64) {
				if top := v / (1 << 60); top == 0 || top == 8 {
					c.Satp = top<<60 + v%(1<<44)
				}
			}},
		{0x300, 3, false,
			func(c api.Csr, _, _ uint64) uint64 { return c.Mstatus },
			func(c *api.Csr, v uint64) {
				c.Mstatus = pick(v, 1, 3, 5, 7, 8, 11, 12, 17, 18, 19)
				if pick(v, 11) == 0 {
					c.Mstatus = pick(v, 1, 3, 5, 7, 8, 17, 18, 19)
				}
			}},
		{0x301, 3, false,
			func(api.Csr, uint64, uint64) uint64 { return 0x8000000000141105 },
			func(*api.Csr, uint64) {}},
		whole(0x302, 3, func(c *api.Csr) *uint64 { return &c.Medeleg }, []int{0, 1, 2, 3, 4, 5, 6, 7, 8, 9, 12, 13, 15}),
		whole(0x303, 3, func(c *api.Csr) *uint64 { return &c.Mideleg }, []int{1, 5, 9}),
		whole(0x304, 3, func(c *api.Csr) *uint64 { return &c.Mie }, []int{1, 3, 5, 7, 9, 11}),
		whole(0x305, 3, func(c *api.Csr) *uint64 { return &c.Mtvec }, but(1)),
		whole(0x340, 3, func(c *api.Csr) *uint64 { return &c.Mscratch }, but()),
		whole(0x341, 3, func(c *api.Csr) *uint64 { return &c.Mepc }, but(0)),
		whole(0x342, 3, func(c *api.Csr) *uint64 { return &c.Mcause }, but()),
		whole(0x343, 3, func(c *api.Csr) *uint64 { return &c.Mtval }, but()),
		{0x344, 3, false,
			func(c api.Csr, lines, _ uint64) uint64 { return come(c, lines) },
			func(c *api.Csr, v uint64) { c.Mip = pick(v, 1, 5, 9) }},
		{0xb00, 3, false, theCount, func(*api.Csr, uint64) {}},
		{0xb02, 3, false, theCount, func(*api.Csr, uint64) {}},
		{0xc00, 0, true, theCount, nil},
		{0xc01, 0, true, theCount, nil},
		{0xc02, 0, true, theCount, nil},
		{0xf11, 3, true, nought, nil},
		{0xf12, 3, true, nought, nil},
		{0xf13, 3, true, nought, nil},
		{0xf14, 3, true, nought, nil},
	}
}

// whole: a register that is a field, of which a write takes these bits.
func whole(num, least int, field func(c *api.Csr) *uint64, taken []int) row {
	return row{num, least, false,
		func(c api.Csr, _, _ uint64) uint64 { return *field(&c) },
		func(c *api.Csr, v uint64) { *field(c) = pick(v, taken...) }}
}

func theCount(_ api.Csr, _, count uint64) uint64 { return count }

func nought(api.Csr, uint64, uint64) uint64 { return 0 }

// come: what 344 tells.
func come(c api.Csr, lines uint64) uint64 {
	n := pick(lines, 1, 3, 5, 7, 9, 11)
	lay(&n, c.Mip|lines, 1, 5, 9)
	return n
}

// pick: the number's bits at these places alone.
func pick(n uint64, places ...int) (picked uint64) {
	for _, i := range places {
		picked += n / (1 << i) % 2 * (1 << i)
	}
	return picked
}

// lay: the bits at these places become v's.
func lay(n *uint64, v uint64, places ...int) {
	for _, i := range places {
		*n += pick(v, i) - pick(*n, i)
	}
}

// places: where the number has a bit.
func places(n uint64) (list []int) {
	for i := range 64 {
		if pick(n, i) != 0 {
			list = append(list, i)
		}
	}
	return list
}

// but: all places but these.
func but(others ...int) (list []int) {
	for i := range 64 {
		if len(others) == 0 || others[0] != i {
			list = append(list, i)
		}
	}
	return list
}

// find: the row of the number; false: there is none.
func find(list []row, num int) (row, bool) {
	for _, r := range list {
		if r.num == num {
			return r, true
		}
	}
	return row{}, false
}

const all = 1<<64 - 1

// fields: all fields, in the order in which api.Csr has them.
func fields(c *api.Csr) []*uint64 {
	return []*uint64{
		&c.Mstatus, &c.Medeleg, &c.Mideleg, &c.Mie, &c.Mip, &c.Mtvec, &c.Mscratch, &c.Mepc, &c.Mcause, &c.Mtval,
		&c.Stvec, &c.Sscratch, &c.Sepc, &c.Scause, &c.Stval, &c.Satp,
	}
}

// filled: registers that all hold n.
func filled(n uint64) (c api.Csr) {
	for _, p := range fields(&c) {
		*p = n
	}
	return c
}

// chance: registers of any kind; few of them may be.
func chance(r *rand.Rand) (c api.Csr) {
	for _, p := range fields(&c) {
		*p = r.Uint64()
	}
	return c
}

// chanceRight: registers that may be.
func chanceRight(r *rand.Rand) api.Csr {
	c := chance(r)
	c.Mstatus = pick(c.Mstatus, 1, 3, 5, 7, 8, 11, 12, 17, 18, 19)
	if pick(c.Mstatus, 11) == 0 {
		c.Mstatus = pick(c.Mstatus, 1, 3, 5, 7, 8, 17, 18, 19)
	}
	c.Medeleg = pick(c.Medeleg, 0, 1, 2, 3, 4, 5, 6, 7, 8, 9, 12, 13, 15)
	c.Mideleg = pick(c.Mideleg, 1, 5, 9)
	c.Mie = pick(c.Mie, 1, 3, 5, 7, 9, 11)
	c.Mip = pick(c.Mip, 1, 5, 9)
	c.Mtvec, c.Stvec = pick(c.Mtvec, but(1)...), pick(c.Stvec, but(1)...)
	c.Mepc, c.Sepc = pick(c.Mepc, but(0)...), pick(c.Sepc, but(0)...)
	c.Satp = c.Satp%(1<<44) + c.Satp>>63<<63
	return c
}

// someRegisters: right ones and wrong ones, the empty and the full among them.
func someRegisters(seed int64, count int) []api.Csr {
	r := rand.New(rand.NewSource(seed))
	list := []api.Csr{{}, filled(all), filled(0x5555555555555555), filled(0xaaaaaaaaaaaaaaaa)}
	for range count {
		list = append(list, chance(r), chanceRight(r))
	}
	return list
}

// someValues: each bit alone and left out alone, the bits that decide something in all ways, and numbers by chance.
func someValues(seed int64) []uint64 {
	list := []uint64{0, all, 0x222, 0xaaa, 0xb3ff, 0xe19aa, 0xc0122, 0x5555555555555555, 0xaaaaaaaaaaaaaaaa}
	for i := range 64 {
		list = append(list, 1<<i, all-1<<i, all<<i, all>>i)
	}
	for n := range uint64(16) {
		list = append(list, n, n<<60, n<<60|1<<44, n<<60|(1<<44-1), n<<60|(1<<60-1), n%4<<11, n%4<<11|0xe01aa, all-n<<10)
	}
	r := rand.New(rand.NewSource(seed))
	for range 64 {
		n := r.Uint64()
		list = append(list, n, n>>4, n>>4|1<<63, n>>r.Intn(64))
	}
	return list
}

// someModes: the modes, the number between them that is none, and others.
func someModes() []int {
	return []int{math.MinInt, -4, -3, -1, 0, 1, 2, 3, 4, 5, 256, math.MaxInt}
}

// someNumbers: all numbers, those below 0 and above fff, and those that have the low bits of one that is there.
func someNumbers() []int {
	list := []int{math.MinInt, math.MinInt + 0x300, math.MinInt32, math.MaxInt32, math.MaxInt - 0xfff, math.MaxInt}
	for n := -0x1100; n <= 0x2100; n++ {
		list = append(list, n)
	}
	for _, r := range rows() {
		for _, high := range []int{12, 13, 16, 20, 31, 32, 40, 62} {
			list = append(list, r.num+1<<high, r.num-1<<high)
		}
	}
	return list
}

func wantRead(t *testing.T, c api.Csr, mode, num int, lines, count, want uint64, may bool) {
	t.Helper()
	if n, ok := Read(c, mode, num, lines, count); n != want || ok != may {
		t.Errorf("Read(%+v, %d, %x, %x, %x): %x, %v, want %x, %v", c, mode, num, lines, count, n, ok, want, may)
	}
}

func wantWrite(t *testing.T, c api.Csr, mode, num int, v uint64, want api.Csr, may bool) {
	t.Helper()
	if after, ok := Write(c, mode, num, v); after != want || ok != may {
		t.Errorf("Write(%+v, %d, %x, %x): %+v, %v, want %+v, %v", c, mode, num, v, after, ok, want, may)
	}
}

func wantRight(t *testing.T, c api.Csr, want bool) {
	t.Helper()
	if ok := Right(c); ok != want {
		t.Errorf("Right(%+v): %v, want %v", c, ok, want)
	}
}

// wantBy: Read and Write of the number answer as its row does, or tell that there is none.
func wantBy(t *testing.T, list []row, c api.Csr, mode, num int, v, lines, count uint64) {
	t.Helper()
	r, ok := find(list, num)
	may := ok && mode >= r.least
	told, after := uint64(0), c
	if may {
		told = r.read(c, lines, count)
	}
	if may && !r.fixed {
		r.write(&after, v)
	}
	wantRead(t, c, mode, num, lines, count, told, may)
	wantWrite(t, c, mode, num, v, after, may && !r.fixed)
}

// P9.1: the chapter's examples.
func TestExamples(t *testing.T) {
	wantWrite(t, api.Csr{}, api.Boss, 0x300, 0x1000, api.Csr{}, true)
	wantWrite(t, api.Csr{Mstatus: 0xe19aa}, api.Boss, 0x300, 0x1000, api.Csr{}, true)
	wantRead(t, api.Csr{Mstatus: 8}, api.Supervisor, 0x300, 0, 0, 0, false)
	wantRead(t, api.Csr{Mstatus: 8}, api.Boss, 0x300, 0, 0, 8, true)
}

// P9.1: what is read, as written down by hand.
func TestKnownReads(t *testing.T) {
	c := api.Csr{
		Mstatus: 0xe19aa, Medeleg: 0xb3ff, Mideleg: 0x202, Mie: 0xa8a, Mip: 0x22, Mtvec: 0x101, Mscratch: 0x102,
		Mepc: 0x104, Mcause: 0x106, Mtval: 0x107,
		Stvec: 0x201, Sscratch: 0x203, Sepc: 0x204, Scause: 0x205, Stval: 0x206, Satp: 0x8000000000080000,
	}
	const lines, count = 0x288, 77
	for _, x := range []struct {
		num, least int
		want       uint64
	}{
		{0x300, 3, 0xe19aa}, {0x302, 3, 0xb3ff}, {0x303, 3, 0x202}, {0x304, 3, 0xa8a}, {0x305, 3, 0x101},
		{0x340, 3, 0x102}, {0x341, 3, 0x104}, {0x342, 3, 0x106}, {0x343, 3, 0x107}, {0x344, 3, 0x2aa},
		{0x100, 1, 0xc0122}, {0x104, 1, 0x202}, {0x105, 1, 0x201}, {0x140, 1, 0x203}, {0x141, 1, 0x204},
		{0x142, 1, 0x205}, {0x143, 1, 0x206}, {0x144, 1, 0x202}, {0x180, 1, 0x8000000000080000},
		{0x301, 3, 0x8000000000141105},
		{0xb00, 3, 77}, {0xb02, 3, 77}, {0xc00, 0, 77}, {0xc01, 0, 77}, {0xc02, 0, 77},
		{0xf11, 3, 0}, {0xf12, 3, 0}, {0xf13, 3, 0}, {0xf14, 3, 0},
	} {
		for mode := -1; mode <= 4; mode++ {
			if mode >= x.least {
				wantRead(t, c, mode, x.num, lines, count, x.want, true)
			} else {
				wantRead(t, c, mode, x.num, lines, count, 0, false)
			}
		}
	}
}

// P9.1: the interrupts that are told, by Mip and by the lines.
func TestKnownInterrupts(t *testing.T) {
	full := filled(all)
	wantRead(t, api.Csr{Mip: all}, 3, 0x344, 0, 0, 0x222, true)
	wantRead(t, api.Csr{}, 3, 0x344, all, 0, 0xaaa, true)
	wantRead(t, api.Csr{Mip: 0x20}, 3, 0x344, 0x880, 0, 0x8a0, true)
	wantRead(t, api.Csr{Mip: 0x20}, 3, 0x344, 0x20, 0, 0x20, true)
	wantRead(t, full, 1, 0x144, 0, 0, 0x222, true)
	wantRead(t, full, 1, 0x144, all, 0, 0xaaa, true)
	wantRead(t, api.Csr{Mip: 0x222}, 1, 0x144, all, 0, 0, true)
	wantRead(t, api.Csr{Mideleg: 0x220, Mip: 0x22}, 1, 0x144, 0xa00, 0, 0x220, true)
	wantRead(t, api.Csr{Mideleg: 0x222, Mie: 0xa88}, 1, 0x104, all, 0, 0x200, true)
	wantRead(t, api.Csr{Mie: 0xaaa}, 1, 0x104, all, 0, 0, true)
	wantRead(t, full, 1, 0x104, 0, 0, all, true)
}

// P9.1: what is written, as written down by hand.
func TestKnownWrites(t *testing.T) {
	for _, x := range []struct {
		was  api.Csr
		num  int
		v    uint64
		want api.Csr
	}{
		{api.Csr{}, 0x300, all, api.Csr{Mstatus: 0xe19aa}},
		{api.Csr{}, 0x300, 0x0800, api.Csr{Mstatus: 0x0800}},
		{api.Csr{}, 0x300, 0x1800, api.Csr{Mstatus: 0x1800}},
		{api.Csr{Mstatus: 0x1800}, 0x300, 0x1008, api.Csr{Mstatus: 8}},
		{api.Csr{}, 0x302, all, api.Csr{Medeleg: 0xb3ff}},
		{api.Csr{Medeleg: 0xb3ff}, 0x302, 0x4c00, api.Csr{}},
		{api.Csr{}, 0x303, all, api.Csr{Mideleg: 0x222}},
		{api.Csr{Mideleg: all}, 0x303, 0x888, api.Csr{}},
		{api.Csr{}, 0x304, all, api.Csr{Mie: 0xaaa}},
		{api.Csr{}, 0x305, all, api.Csr{Mtvec: all - 2}},
		{api.Csr{}, 0x305, 0x80000003, api.Csr{Mtvec: 0x80000001}},
		{api.Csr{}, 0x340, all, api.Csr{Mscratch: all}},
		{api.Csr{}, 0x341, all, api.Csr{Mepc: all - 1}},
		{api.Csr{}, 0x342, all, api.Csr{Mcause: all}},
		{api.Csr{}, 0x343, all, api.Csr{Mtval: all}},
		{api.Csr{}, 0x344, all, api.Csr{Mip: 0x222}},
		{api.Csr{Mip: 0x20}, 0x344, 2, api.Csr{Mip: 2}},
		{api.Csr{Mip: all}, 0x344, 0x888, api.Csr{}},
		{api.Csr{}, 0x100, all, api.Csr{Mstatus: 0xc0122}},
		{api.Csr{Mstatus: 0xe19aa}, 0x100, 0, api.Csr{Mstatus: 0x21888}},
		{api.Csr{Mstatus: 0x1000}, 0x100, 2, api.Csr{Mstatus: 0x1002}},
		{api.Csr{}, 0x104, all, api.Csr{}},
		{api.Csr{Mideleg: 0x22, Mie: 0xa88}, 0x104, 0xa20, api.Csr{Mideleg: 0x22, Mie: 0xaa8}},
		{api.Csr{Mideleg: 0x222, Mie: 0xaaa}, 0x104, 0, api.Csr{Mideleg: 0x222, Mie: 0x888}},
		{api.Csr{}, 0x105, all, api.Csr{Stvec: all - 2}},
		{api.Csr{}, 0x140, all, api.Csr{Sscratch: all}},
		{api.Csr{}, 0x141, all, api.Csr{Sepc: all - 1}},
		{api.Csr{}, 0x142, all, api.Csr{Scause: all}},
		{api.Csr{}, 0x143, all, api.Csr{Stval: all}},
		{api.Csr{}, 0x144, all, api.Csr{}},
		{api.Csr{Mideleg: 0x220}, 0x144, all, api.Csr{Mideleg: 0x220}},
		{api.Csr{Mideleg: 0x222}, 0x144, all, api.Csr{Mideleg: 0x222, Mip: 2}},
		{api.Csr{Mideleg: 2, Mip: 0x222}, 0x144, 0, api.Csr{Mideleg: 2, Mip: 0x220}},
		{api.Csr{Mip: 2}, 0x144, 0, api.Csr{Mip: 2}},
		{api.Csr{}, 0x180, 1<<60 - 1, api.Csr{Satp: 1<<44 - 1}},
		{api.Csr{}, 0x180, 8<<60 | 0x80000, api.Csr{Satp: 8<<60 | 0x80000}},
		{api.Csr{Satp: 8<<60 | 7}, 0x180, 0, api.Csr{}},
		{api.Csr{Satp: 8<<60 | 7}, 0x180, 9 << 60, api.Csr{Satp: 8<<60 | 7}},
		{api.Csr{Satp: 5}, 0x180, all, api.Csr{Satp: 5}},
		{api.Csr{Satp: 9<<60 | 5}, 0x180, 1 << 60, api.Csr{Satp: 9<<60 | 5}},
		{api.Csr{}, 0x301, all, api.Csr{}},
		{api.Csr{}, 0xb00, all, api.Csr{}},
		{api.Csr{}, 0xb02, all, api.Csr{}},
	} {
		wantWrite(t, x.was, api.Boss, x.num, x.v, x.want, true)
	}
}

// P9.1: who may write, as written down by hand; those that may not leave all as it was.
func TestKnownModes(t *testing.T) {
	c := filled(0x222)
	for _, num := range []int{0x100, 0x104, 0x105, 0x140, 0x141, 0x142, 0x143, 0x144, 0x180} {
		wantWrite(t, c, -1, num, 0, c, false)
		wantWrite(t, c, api.User, num, 0, c, false)
		if after, ok := Write(c, api.Supervisor, num, 0); !ok || after == c {
			t.Errorf("Write of %x in mode Supervisor: %+v, %v", num, after, ok)
		}
	}
	for _, num := range []int{0x300, 0x302, 0x303, 0x304, 0x305, 0x340, 0x341, 0x342, 0x343, 0x344} {
		wantWrite(t, c, api.User, num, 0, c, false)
		wantWrite(t, c, api.Supervisor, num, 0, c, false)
		wantWrite(t, c, 2, num, 0, c, false)
		if after, ok := Write(c, api.Boss, num, 0); !ok || after == c {
			t.Errorf("Write of %x in mode Boss: %+v, %v", num, after, ok)
		}
	}
	for _, num := range []int{0xc00, 0xc01, 0xc02, 0xf11, 0xf12, 0xf13, 0xf14} {
		for mode := range 5 {
			wantWrite(t, c, mode, num, 0, c, false)
		}
	}
}

// P9.1 and P1 of DOC.md: all numbers in all modes, on right registers and on wrong ones, held against the rows.
func TestNumbers(t *testing.T) {
	r := rand.New(rand.NewSource(910))
	list := rows()
	for _, num := range someNumbers() {
		for _, mode := range someModes() {
			wantBy(t, list, filled(all), mode, num, 0, 0, 1)
			wantBy(t, list, api.Csr{}, mode, num, all, all, all)
			wantBy(t, list, chance(r), mode, num, r.Uint64(), r.Uint64(), r.Uint64())
			wantBy(t, list, chanceRight(r), mode, num, r.Uint64(), r.Uint64(), r.Uint64())
		}
	}
}

// P9.1: each register with many values, on right registers and on wrong ones, held against the rows.
func TestRegisters(t *testing.T) {
	r := rand.New(rand.NewSource(911))
	list, values := rows(), someValues(912)
	for _, c := range someRegisters(913, 12) {
		for _, x := range list {
			for _, v := range values {
				lines := values[r.Intn(len(values))]
				wantBy(t, list, c, api.Boss, x.num, v, lines, r.Uint64())
			}
		}
	}
}

// P9.1: each bit of each field, of the lines and of the count is told where it has to be, and nowhere else.
func TestBits(t *testing.T) {
	list := rows()
	for i := range 64 {
		for f := range 16 {
			var c api.Csr
			*fields(&c)[f] = 1 << i
			full := filled(all)
			*fields(&full)[f] -= 1 << i
			for _, x := range list {
				wantBy(t, list, c, api.Boss, x.num, 1<<i, 0, 0)
				wantBy(t, list, full, api.Boss, x.num, all-1<<i, 0, 0)
			}
		}
		for _, x := range list {
			wantBy(t, list, api.Csr{Mideleg: all}, api.Boss, x.num, 0, 1<<i, 0)
			wantBy(t, list, api.Csr{Mideleg: all}, api.Boss, x.num, 0, 0, 1<<i)
			wantBy(t, list, api.Csr{Mideleg: 1 << i}, api.Boss, x.num, 0, all, 0)
		}
	}
}

// P9.1: which registers may be, each field's bits one by one.
func TestRightBits(t *testing.T) {
	wantRight(t, api.Csr{}, true)
	wantRight(t, filled(all), false)
	may := [16]uint64{
		// Bit 12 alone is 2 in bits 12:11.
		0xe09aa, 0xb3ff, 0x222, 0xaaa, 0x222, all - 2, all, all - 1, all, all,
		all - 2, all, all - 1, all, all, 1<<63 | (1<<44 - 1),
	}
	r := rand.New(rand.NewSource(914))
	for f, bits := range may {
		for i := range 64 {
			var c api.Csr
			*fields(&c)[f] = 1 << i
			wantRight(t, c, pick(bits, i) != 0)
			if pick(bits, i) != 0 || f == 0 && i == 12 {
				continue
			}
			for range 8 {
				c = chanceRight(r)
				*fields(&c)[f] |= 1 << i
				wantRight(t, c, false)
			}
		}
	}
}

// P9.1: bits 12:11 of Mstatus and bits 63:60 of Satp in all ways; all bits of each field that may be.
func TestRightEdges(t *testing.T) {
	for mode := range uint64(4) {
		wantRight(t, api.Csr{Mstatus: mode << 11}, mode != 2)
		wantRight(t, api.Csr{Mstatus: mode<<11 | 0xe01aa}, mode != 2)
	}
	for way := range uint64(16) {
		wantRight(t, api.Csr{Satp: way << 60}, way == 0 || way == 8)
		wantRight(t, api.Csr{Satp: way<<60 | (1<<44 - 1)}, way == 0 || way == 8)
		wantRight(t, api.Csr{Satp: way<<60 | 1<<44}, false)
		wantRight(t, api.Csr{Satp: way<<60 | 1<<59}, false)
	}
	wantRight(t, api.Csr{
		Mstatus: 0xe19aa, Medeleg: 0xb3ff, Mideleg: 0x222, Mie: 0xaaa, Mip: 0x222, Mtvec: all - 2, Mscratch: all,
		Mepc: all - 1, Mcause: all, Mtval: all,
		Stvec: all - 2, Sscratch: all, Sepc: all - 1, Scause: all, Stval: all, Satp: 8<<60 | (1<<44 - 1),
	}, true)
	r := rand.New(rand.NewSource(915))
	for range 4096 {
		wantRight(t, chanceRight(r), true)
		wantRight(t, chance(r), false)
	}
}

// P9.2: of right registers Write leaves right ones, in one write and in many.
func TestRightStaysRight(t *testing.T) {
	r := rand.New(rand.NewSource(920))
	values := someValues(921)
	for num := -1; num <= 0x1000; num++ {
		for mode := range 5 {
			c, _ := Write(chanceRight(r), mode, num, r.Uint64())
			wantRight(t, c, true)
		}
	}
	for _, x := range rows() {
		for _, v := range values {
			c, _ := Write(chanceRight(r), api.Boss, x.num, v)
			wantRight(t, c, true)
		}
	}
	list, c := rows(), api.Csr{}
	for range 1 << 14 {
		c, _ = Write(c, r.Intn(4), list[r.Intn(len(list))].num, values[r.Intn(len(values))])
		wantRight(t, c, true)
	}
}

// P9.3: what Read tells, written, and read again, is the same.
func TestOnce(t *testing.T) {
	r := rand.New(rand.NewSource(930))
	for range 256 {
		c, count := chanceRight(r), r.Uint64()
		for _, x := range rows() {
			for mode := x.least; mode <= 3 && !x.fixed; mode++ {
				told, ok := Read(c, mode, x.num, 0, count)
				after, may := Write(c, mode, x.num, told)
				if !ok || !may || after != c {
					t.Errorf("%x of %+v, mode %d: read %x, %v; written: %+v, %v", x.num, c, mode, told, ok, after, may)
				}
				wantRead(t, after, mode, x.num, 0, count, told, true)
			}
		}
	}
}

// P9.3: what was written and may stay is what is read; a second write of it changes nothing more.
func TestWrittenOnce(t *testing.T) {
	r := rand.New(rand.NewSource(931))
	for _, c := range someRegisters(932, 64) {
		for _, x := range rows() {
			if x.fixed {
				continue
			}
			v := r.Uint64()
			if x.num == 0x180 {
				v >>= 4 // else nothing changes, and what was wrong stays so
			}
			first, _ := Write(c, api.Boss, x.num, v)
			wantWrite(t, first, api.Boss, x.num, v, first, true)
			told, _ := Read(first, api.Boss, x.num, 0, 5)
			second, _ := Write(first, api.Boss, x.num, told)
			wantRead(t, second, api.Boss, x.num, 0, 5, told, true)
		}
	}
}

// P9.4: a write of the middle one's registers changes nothing that reading it doesn't tell: the bits that change in
// all fields together are those that change in what is read, and what was read ahead of the write brings all back.
func TestMiddlesPart(t *testing.T) {
	values := someValues(940)
	for _, num := range []int{0x100, 0x104, 0x144} {
		for _, c := range someRegisters(941+int64(num), 12) {
			was, _ := Read(c, api.Supervisor, num, 0, 0)
			for _, v := range values {
				after, ok := Write(c, api.Supervisor, num, v)
				if !ok {
					t.Fatalf("Write of %x: false", num)
				}
				now, _ := Read(after, api.Supervisor, num, 0, 0)
				wantWrite(t, after, api.Supervisor, num, was, c, true)
				old, young := fields(&c), fields(&after)
				changed := uint64(0)
				for f := range old {
					changed |= *old[f] ^ *young[f]
				}
				if changed != was^now {
					t.Errorf("%x of %+v, written with %x: changed %x, told %x and %x", num, c, v, changed, was, now)
				}
			}
		}
	}
}

// P9.4: what the middle one hasn't been handed it neither raises nor forbids.
func TestNotHandedDown(t *testing.T) {
	for _, handed := range []uint64{0, 2, 0x20, 0x200, 0x22, 0x202, 0x220, 0x222} {
		for _, v := range someValues(950) {
			c := api.Csr{Mideleg: handed, Mie: 0xaaa, Mip: 0x222}
			c, _ = Write(c, api.Supervisor, 0x104, v)
			c, _ = Write(c, api.Supervisor, 0x144, v)
			if c.Mie&^handed != 0xaaa&^handed || c.Mip&0x220 != 0x220 || c.Mideleg != handed {
				t.Errorf("handed down %x, written with %x: %+v", handed, v, c)
			}
			if handed&2 == 0 && c.Mip != 0x222 {
				t.Errorf("handed down %x, written with %x: Mip %x", handed, v, c.Mip)
			}
		}
	}
}

// P1 of DOC.md: the calls hang on their arguments alone.
func TestAsksNothingElse(t *testing.T) {
	type call struct {
		c               api.Csr
		mode, num       int
		v, lines, count uint64
	}
	type answer struct {
		told             uint64
		after            api.Csr
		read, write, may bool
	}
	ask := func(x call) (a answer) {
		a.told, a.read = Read(x.c, x.mode, x.num, x.lines, x.count)
		a.after, a.write = Write(x.c, x.mode, x.num, x.v)
		a.may = Right(x.c)
		return a
	}
	r := rand.New(rand.NewSource(960))
	list := rows()
	var calls []call
	var first []answer
	for range 4096 {
		x := call{chance(r), r.Intn(4), list[r.Intn(len(list))].num, r.Uint64(), r.Uint64(), r.Uint64()}
		if r.Intn(2) == 0 {
			x.c = chanceRight(r)
		}
		calls, first = append(calls, x), append(first, ask(x))
	}
	for i := len(calls) - 1; i >= 0; i-- {
		if a := ask(calls[i]); a != first[i] {
			t.Errorf("%+v: %+v, and before %+v", calls[i], a, first[i])
		}
	}
}
