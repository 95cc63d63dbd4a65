package move

import (
	"math"
	"math/rand"
	"slices"
	"strings"

	"tandem/api"
	"tandem/machine"
)

const (
	all  = uint64(1<<64 - 1)
	base = uint64(0x80000000)
)

// pattern: so many bytes by chance, the same ones each time.
func pattern(n int, seed int64) string {
	b := make([]byte, n)
	rand.New(rand.NewSource(seed)).Read(b)
	return string(b)
}

// busy: a right machine of which no field is nothing, with this program; no interrupt is on.
func busy(boot string, leaves int) api.Machine {
	m := api.Machine{
		Hart: api.Hart{PC: base, Mode: 3, Held: true, At: base + 8, C: api.Csr{
			Mstatus: 0x20, Medeleg: 0x100, Mideleg: 0x222, Mie: 0x80, Mip: 0x2, Mtvec: base + 0x81, Mscratch: 3, Mepc: 4, Mcause: 5, Mtval: 6,
			Stvec: base + 0x85, Sscratch: 8, Sepc: 10, Scause: 11, Stval: 12, Satp: 13,
		}},
		Board: api.Board{
			Msip: true, Cmp: 1 << 40, In: "waits", Ier: true, Sectors: pattern(1024, 2), Sector: 4, Addr: base + 0x40,
			Bad: true, Frames: []string{"one", "and two"}, NicAddr: base + 0x80, NicLen: 6,
			Plic: api.Plic{Prio: [4]uint32{0, 3, 5, 7}, Enable: [2]uint32{10, 12}, Level: [2]uint32{1, 2}, Claimed: 8},
		},
		Ram:   busyRam(leaves),
		Count: 700, Next: 41, Outs: []api.Record{{Num: 39, Dev: 2, Bytes: "out"}, {Num: 40, Dev: 1, Bytes: "."}},
	}
	copy(m.Ram.Data, boot)
	for n := range m.Hart.X[1:] {
		m.Hart.X[n+1] = base + 0x10*uint64(n)
	}
	return m
}

// busyRam: a memory of no leaf of noughts, whose marks are 0 to 8, one behind the other; its epoch is 9.
func busyRam(leaves int) api.Ram {
	mem := api.Ram{Data: []byte(pattern(256*leaves, 3)), Epoch: 9}
	for i := range leaves {
		mem.Marks = append(mem.Marks, uint64(i%9))
	}
	return mem
}

// A wrong is a memory or a machine that may not be, by one thing alone.
type wrong struct {
	what   string
	change func(m *api.Machine)
	err    api.Errno
}

// wrongRams: of a machine of some leaves.
func wrongRams() []wrong {
	return []wrong{
		{"no memory", func(m *api.Machine) { m.Ram = api.Ram{} }, 50},
		{"no leaf", func(m *api.Machine) { m.Ram.Data, m.Ram.Marks = nil, nil }, 50},
		{"a byte too few", func(m *api.Machine) { m.Ram.Data = m.Ram.Data[1:] }, 50},
		{"a byte too many", func(m *api.Machine) { m.Ram.Data = append(m.Ram.Data, 0) }, 50},
		{"a leaf too few", func(m *api.Machine) { m.Ram.Data = m.Ram.Data[256:] }, 50},
		{"a leaf too many", func(m *api.Machine) { m.Ram.Data = append(m.Ram.Data, make([]byte, 256)...) }, 50},
		{"a leaf without a mark", func(m *api.Machine) { m.Ram.Marks = m.Ram.Marks[1:] }, 50},
		{"a mark without a leaf", func(m *api.Machine) { m.Ram.Marks = append(m.Ram.Marks, 0) }, 50},
		{"257 leaves", func(m *api.Machine) { m.Ram = busyRam(257) }, 50},
		{"a late mark", func(m *api.Machine) { m.Ram.Marks[1] = m.Ram.Epoch + 1 }, 50},
		{"a late last mark", func(m *api.Machine) { m.Ram.Marks[len(m.Ram.Marks)-1] = all }, 50},
	}
}

// wrongs: by memory, then by the processor, by the board and by its Plic.
func wrongs() []wrong {
	return append(wrongRams(), []wrong{
		{"register 0", func(m *api.Machine) { m.Hart.X[0] = 1 }, 170},
		{"an odd PC", func(m *api.Machine) { m.Hart.PC++ }, 170},
		{"mode 2", func(m *api.Machine) { m.Hart.Mode = 2 }, 170},
		{"mode -1", func(m *api.Machine) { m.Hart.Mode = -1 }, 170},
		{"At that isn't held", func(m *api.Machine) { m.Hart.Held = false }, 170},
		{"Mstatus", func(m *api.Machine) { m.Hart.C.Mstatus |= 1 }, 170},
		{"Mie", func(m *api.Machine) { m.Hart.C.Mie |= 1 }, 170},
		{"Mtvec", func(m *api.Machine) { m.Hart.C.Mtvec |= 2 }, 170},
		{"Satp", func(m *api.Machine) { m.Hart.C.Satp |= 1 << 44 }, 170},
		{"no sectors", func(m *api.Machine) { m.Board.Sectors = "" }, 170},
		{"1023 bytes of sectors", func(m *api.Machine) { m.Board.Sectors = m.Board.Sectors[1:] }, 170},
		{"1025 bytes that wait", func(m *api.Machine) { m.Board.In = pattern(1025, 1) }, 170},
		{"65 frames", func(m *api.Machine) { m.Board.Frames = make([]string, 65) }, 170},
		{"2000 frames", func(m *api.Machine) { m.Board.Frames = make([]string, 2000) }, 170},
		{"a frame of 65 bytes", func(m *api.Machine) { m.Board.Frames = append(m.Board.Frames, pattern(65, 1)) }, 170},
		{"Prio 0", func(m *api.Machine) { m.Board.Plic.Prio[0] = 1 }, 170},
		{"Prio 3", func(m *api.Machine) { m.Board.Plic.Prio[3] = 8 }, 170},
		{"Enable", func(m *api.Machine) { m.Board.Plic.Enable[0] |= 1 }, 170},
		{"Level", func(m *api.Machine) { m.Board.Plic.Level[1] = 8 }, 170},
		{"Claimed", func(m *api.Machine) { m.Board.Plic.Claimed |= 16 }, 170},
	}...)
}

// rights: machines that may be, at the edges of what may.
func rights() map[string]api.Machine {
	list := map[string]api.Machine{"busy": busy("", 3)}
	for _, name := range names() {
		list[name], _ = machine.New(programs()[name], 2)
	}
	for what, change := range map[string]func(m *api.Machine){
		"one leaf":     func(m *api.Machine) { m.Ram = busyRam(1) },
		"256 leaves":   func(m *api.Machine) { m.Ram = busyRam(256) },
		"noughts":      func(m *api.Machine) { m.Ram.Data = make([]byte, 768) },
		"marks of now": func(m *api.Machine) { m.Ram.Marks = []uint64{9, 9, 9} },
		"marks of old": func(m *api.Machine) { m.Ram.Marks = []uint64{0, 0, 0} },
		"nothing held": func(m *api.Machine) { m.Hart.Held, m.Hart.At = false, 0 },
		"all that waits": func(m *api.Machine) {
			m.Board.In, m.Board.Frames = pattern(1024, 1), slices.Repeat([]string{pattern(64, 1)}, 64)
		},
		"nothing waits": func(m *api.Machine) { m.Board.In, m.Board.Frames = "", nil },
		"records of any kind": func(m *api.Machine) {
			m.Outs = []api.Record{{Num: 9, Dev: -4, Bytes: ""}, {Num: 9, Dev: 7, Bytes: pattern(1000, 1)}, {}}
			m.Count, m.Next = all, all
		},
		"no records": func(m *api.Machine) { m.Outs = nil },
	} {
		m := busy("", 3)
		change(&m)
		list[what] = m
	}
	return list
}

// moving: what is kept of a move that may go on with a machine of so many leaves.
func moving(leaves int) api.Moving {
	mem := api.Ram{Data: []byte(pattern(256*leaves, 4)), Marks: make([]uint64, leaves), Epoch: 5}
	for i := range mem.Marks {
		mem.Marks[i] = uint64(i % 6)
	}
	return api.Moving{Round: 3, Since: 1, Ram: mem}
}

// A stuck is a move that may not go on with a machine of three leaves, by one thing alone.
type stuck struct {
	what string
	v    api.Moving
}

// stucks: by its round, by its memory, and by how many leaves that has.
func stucks() []stuck {
	var list []stuck
	add := func(what string, change func(v *api.Moving)) {
		v := moving(3)
		change(&v)
		list = append(list, stuck{what, v})
	}
	add("no move", func(v *api.Moving) { *v = api.Moving{} })
	for what, n := range map[string]int{
		"round 0": 0, "round -1": -1, "round 9": 9, "round 10": 10, "the least round": math.MinInt, "the greatest round": math.MaxInt,
		"round 1 of 2^32 more": 1<<32 + 1, "round 257": 257, "round -3": -3,
	} {
		add(what, func(v *api.Moving) { v.Round = n })
	}
	for _, x := range wrongRams() {
		add(x.what, func(v *api.Moving) {
			m := api.Machine{Ram: v.Ram}
			x.change(&m)
			v.Ram = m.Ram
		})
	}
	for what, leaves := range map[string]int{"1 leaf": 1, "2 leaves": 2, "4 leaves": 4, "6 leaves": 6, "256 leaves": 256} {
		add(what, func(v *api.Moving) { v.Ram = busyRam(leaves) })
	}
	return list
}

// roomy: a machine whose lists have spare room.
func roomy(boot string) api.Machine {
	m := busy(boot, 2)
	m.Board.Frames = append(m.Board.Frames, "s", "p", "a", "r", "e")[:2]
	m.Ram = roomyRam(m.Ram)
	spare := api.Record{Num: 99, Dev: 99, Bytes: "spare"}
	m.Outs = append(m.Outs, spare, spare, spare)[:2]
	return m
}

// roomyRam: the memory, with spare room.
func roomyRam(mem api.Ram) api.Ram {
	mem.Data = append(mem.Data, strings.Repeat("s", 300)...)[:len(mem.Data)]
	mem.Marks = append(mem.Marks, 91, 92, 93)[:len(mem.Marks)]
	return mem
}

// whole: the answer with its lists' spare room.
func whole(a answer) answer {
	a.M.Board.Frames, a.M.Outs = a.M.Board.Frames[:cap(a.M.Board.Frames)], a.M.Outs[:cap(a.M.Outs)]
	for _, mem := range []*api.Ram{&a.M.Ram, &a.V.Ram} {
		mem.Data, mem.Marks = mem.Data[:cap(mem.Data)], mem.Marks[:cap(mem.Marks)]
	}
	a.Pieces = a.Pieces[:cap(a.Pieces)]
	return a
}

// lists: functions of which each lays other things into one of the answer's lists, in the spare room too.
func lists(a answer) map[string]func() {
	a = whole(a)
	return map[string]func(){
		"Frames": func() {
			for i := range a.M.Board.Frames {
				a.M.Board.Frames[i] += "!"
			}
		},
		"Outs": func() {
			for i := range a.M.Outs {
				a.M.Outs[i] = api.Record{Num: 1000, Bytes: "!"}
			}
		},
		"Data":            func() { spoil(a.M.Ram.Data) },
		"Marks":           func() { spoil(a.M.Ram.Marks) },
		"the move's Data": func() { spoil(a.V.Ram.Data) },
		"its Marks":       func() { spoil(a.V.Ram.Marks) },
		"pieces": func() {
			for i := range a.Pieces {
				a.Pieces[i] = api.Piece{Leaf: 1000, Bytes: "!"}
			}
		},
	}
}

func spoil[T byte | uint64](list []T) {
	for i := range list {
		list[i] ^= 0xff
	}
}

// anyMachine: a right one by chance, with a program by chance.
func anyMachine(r *rand.Rand) api.Machine {
	m := busy(anyProgram(r), 2+r.Intn(6))
	m.Hart.C = api.Csr{Mstatus: uint64(r.Intn(2)) << 3, Mtvec: base}
	m.Board.In = pattern(r.Intn(40), r.Int63())
	m.Board.Frames = slices.Repeat([]string{pattern(1+r.Intn(64), r.Int63())}, r.Intn(5))
	m.Board.Cmp = uint64(r.Intn(2000))
	if r.Intn(3) == 0 {
		m.Ram.Epoch = []uint64{9, 1<<62 - 2, 1<<62 - 1, 1 << 62, all}[r.Intn(5)]
	}
	if r.Intn(4) == 0 {
		m.Outs = nil
	}
	return m
}

// anyMoving: what is kept of a move, of any kind, often one that may go on with a machine of so many leaves.
func anyMoving(r *rand.Rand, leaves int) api.Moving {
	v := moving(leaves)
	v.Round, v.Since = 1+r.Intn(8), uint64(r.Intn(12))
	switch r.Intn(8) {
	case 0:
		v = stucks()[r.Intn(len(stucks()))].v
	case 1:
		v.Ram.Data, v.Ram.Marks = []byte(pattern(r.Intn(1500), 1)), make([]uint64, r.Intn(6))
	case 2:
		v.Round, v.Since, v.Ram.Epoch = int(r.Uint64()), r.Uint64(), r.Uint64()
	}
	return v
}

// anyPieces: pieces of any kind, most of which may be laid into so many leaves.
func anyPieces(r *rand.Rand, leaves int) []api.Piece {
	var list []api.Piece
	for range r.Intn(6) {
		p := api.Piece{Leaf: r.Intn(leaves), Bytes: pattern(256, r.Int63())}
		if r.Intn(20) == 0 {
			p.Leaf = []int{-1, leaves, leaves + 1, math.MinInt, math.MaxInt}[r.Intn(5)]
		}
		if r.Intn(20) == 0 {
			p.Bytes = pattern([]int{0, 1, 255, 257, 512}[r.Intn(5)], 1)
		}
		list = append(list, p)
	}
	return list
}
