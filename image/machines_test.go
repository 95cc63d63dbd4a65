package image

import (
	"fmt"
	"math/rand"
	"reflect"
	"slices"
	"strings"
	"testing"

	"tandem/api"
	"tandem/machine"
)

const (
	all  = uint64(1<<64 - 1)
	base = uint64(0x80000000)
)

// twin: the same machine, made apart from the program.
func twin(m api.Machine) api.Machine {
	m.Board.Frames, m.Outs = slices.Clone(m.Board.Frames), slices.Clone(m.Outs)
	m.Ram.Data, m.Ram.Marks = slices.Clone(m.Ram.Data), slices.Clone(m.Ram.Marks)
	return m
}

// unlike: what differs; a list that holds nothing may be nil or empty.
func unlike(got, want api.Machine) (s string) {
	tell := func(what string, a, b any) {
		s += fmt.Sprintf("\n\t%s: %.400v, want %.400v", what, fmt.Sprintf("%#v", a), fmt.Sprintf("%#v", b))
	}
	if got.Hart != want.Hart {
		tell("Hart", got.Hart, want.Hart)
	}
	if !slices.Equal(got.Board.Frames, want.Board.Frames) {
		tell("Frames", got.Board.Frames, want.Board.Frames)
	}
	got.Board.Frames, want.Board.Frames = nil, nil
	if !reflect.DeepEqual(got.Board, want.Board) {
		got.Board.Sectors, want.Board.Sectors = fmt.Sprint("the same: ", got.Board.Sectors == want.Board.Sectors), "the same: true"
		tell("Board", got.Board, want.Board)
	}
	if !slices.Equal(got.Ram.Data, want.Ram.Data) {
		tell("Data", len(got.Ram.Data), len(want.Ram.Data))
	}
	if !slices.Equal(got.Ram.Marks, want.Ram.Marks) || got.Ram.Epoch != want.Ram.Epoch {
		tell("Epoch and marks", []any{got.Ram.Epoch, got.Ram.Marks}, []any{want.Ram.Epoch, want.Ram.Marks})
	}
	if got.Count != want.Count || got.Next != want.Next {
		tell("Count and Next", []uint64{got.Count, got.Next}, []uint64{want.Count, want.Next})
	}
	if !slices.Equal(got.Outs, want.Outs) {
		tell("Outs", got.Outs, want.Outs)
	}
	return s
}

func wantMachine(t *testing.T, what string, got, want api.Machine) {
	t.Helper()
	if s := unlike(got, want); s != "" {
		t.Errorf("%s:%s", what, s)
	}
}

// pattern: so many bytes by chance, the same ones each time.
func pattern(n int, seed int64) string {
	b := make([]byte, n)
	rand.New(rand.NewSource(seed)).Read(b)
	return string(b)
}

// frames: so many of so many bytes.
func frames(n, size int) []string {
	var list []string
	for i := range n {
		list = append(list, strings.Repeat(string(rune('a'+i%26)), size))
	}
	return list
}

// busy: a right machine of which no field is nothing, with this program; no interrupt is on.
func busy(boot string, leaves int) api.Machine {
	m := api.Machine{
		Hart: api.Hart{PC: base, Mode: 3, Held: true, At: base + 8, C: api.Csr{
			Mstatus: 0x20, Medeleg: 0x100, Mideleg: 0x222, Mie: 0x80, Mip: 0x2, Mtvec: base + 0x81, Mscratch: 3, Mepc: 4, Mcause: 5, Mtval: 6,
			Stvec: base + 0x85, Sscratch: 8, Sepc: 10, Scause: 11, Stval: 12, Satp: 13,
		}},
		Board: api.Board{
			Msip: true, Cmp: 1 << 40, In: "waits", Ier: true, Sectors: pattern(1024, 2), Sector: 4, Addr: base + 0x40,
			Bad: true, Frames: []string{"one", "and two"}, NicAddr: base + 0x80, NicLen: 6,
			Plic: api.Plic{Prio: [4]uint32{0, 3, 5, 7}, Enable: [2]uint32{10, 12}, Level: [2]uint32{1, 2}, Claimed: 8},
		},
		Ram:   api.Ram{Data: append([]byte(boot), pattern(256*leaves-len(boot), 3)...), Marks: make([]uint64, leaves), Epoch: 9},
		Count: 700, Next: 41, Outs: []api.Record{{Num: 39, Dev: 2, Bytes: "out"}, {Num: 40, Dev: 1, Bytes: "."}},
	}
	for n := range m.Hart.X[1:] {
		m.Hart.X[n+1] = base + 0x10*uint64(n)
	}
	for i := range m.Ram.Marks {
		m.Ram.Marks[i] = uint64(i % 9)
	}
	return m
}

// A wrong is a machine that may not be, by one thing alone.
type wrong struct {
	what   string
	change func(m *api.Machine)
	err    api.Errno
}

// wrongs: by memory, by the processor, by the board and by its Plic.
func wrongs() []wrong {
	return []wrong{
		{"no memory", func(m *api.Machine) { m.Ram = api.Ram{} }, 50},
		{"no leaf", func(m *api.Machine) { m.Ram.Data, m.Ram.Marks = nil, nil }, 50},
		{"a byte too few", func(m *api.Machine) { m.Ram.Data = m.Ram.Data[1:] }, 50},
		{"a byte too many", func(m *api.Machine) { m.Ram.Data = append(m.Ram.Data, 0) }, 50},
		{"a leaf without a mark", func(m *api.Machine) { m.Ram.Marks = m.Ram.Marks[1:] }, 50},
		{"a mark without a leaf", func(m *api.Machine) { m.Ram.Marks = append(m.Ram.Marks, 0) }, 50},
		{"257 leaves", func(m *api.Machine) { m.Ram.Data, m.Ram.Marks = make([]byte, 256*257), make([]uint64, 257) }, 50},
		{"a late mark", func(m *api.Machine) { m.Ram.Marks[1] = m.Ram.Epoch + 1 }, 50},
		{"register 0", func(m *api.Machine) { m.Hart.X[0] = 1 }, 170},
		{"an odd PC", func(m *api.Machine) { m.Hart.PC++ }, 170},
		{"mode 2", func(m *api.Machine) { m.Hart.Mode = 2 }, 170},
		{"mode -1", func(m *api.Machine) { m.Hart.Mode = -1 }, 170},
		{"mode 4", func(m *api.Machine) { m.Hart.Mode = 4 }, 170},
		{"At that isn't held", func(m *api.Machine) { m.Hart.Held = false }, 170},
		{"Mstatus", func(m *api.Machine) { m.Hart.C.Mstatus |= 1 }, 170},
		{"MPP 2", func(m *api.Machine) { m.Hart.C.Mstatus |= 0x1000 }, 170},
		{"Medeleg", func(m *api.Machine) { m.Hart.C.Medeleg |= 1 << 10 }, 170},
		{"Mideleg", func(m *api.Machine) { m.Hart.C.Mideleg |= 8 }, 170},
		{"Mie", func(m *api.Machine) { m.Hart.C.Mie |= 1 }, 170},
		{"Mip", func(m *api.Machine) { m.Hart.C.Mip |= 0x80 }, 170},
		{"Mtvec", func(m *api.Machine) { m.Hart.C.Mtvec |= 2 }, 170},
		{"Stvec", func(m *api.Machine) { m.Hart.C.Stvec |= 2 }, 170},
		{"Mepc", func(m *api.Machine) { m.Hart.C.Mepc |= 1 }, 170},
		{"Sepc", func(m *api.Machine) { m.Hart.C.Sepc |= 1 }, 170},
		{"Satp", func(m *api.Machine) { m.Hart.C.Satp |= 1 << 44 }, 170},
		{"Satp's kind", func(m *api.Machine) { m.Hart.C.Satp |= 9 << 60 }, 170},
		{"no sectors", func(m *api.Machine) { m.Board.Sectors = "" }, 170},
		{"1023 bytes of sectors", func(m *api.Machine) { m.Board.Sectors = m.Board.Sectors[1:] }, 170},
		{"1025 bytes of sectors", func(m *api.Machine) { m.Board.Sectors += "x" }, 170},
		{"1025 bytes that wait", func(m *api.Machine) { m.Board.In = pattern(1025, 1) }, 170},
		{"65 frames", func(m *api.Machine) { m.Board.Frames = frames(65, 1) }, 170},
		{"a frame of 65 bytes", func(m *api.Machine) { m.Board.Frames = append(frames(3, 64), pattern(65, 1)) }, 170},
		{"Prio 0", func(m *api.Machine) { m.Board.Plic.Prio[0] = 1 }, 170},
		{"Prio 1", func(m *api.Machine) { m.Board.Plic.Prio[1] = 8 }, 170},
		{"Prio 3", func(m *api.Machine) { m.Board.Plic.Prio[3] = 8 }, 170},
		{"Enable 0", func(m *api.Machine) { m.Board.Plic.Enable[0] |= 1 }, 170},
		{"Enable 1", func(m *api.Machine) { m.Board.Plic.Enable[1] |= 16 }, 170},
		{"Level 0", func(m *api.Machine) { m.Board.Plic.Level[0] = 8 }, 170},
		{"Level 1", func(m *api.Machine) { m.Board.Plic.Level[1] = 8 }, 170},
		{"Claimed", func(m *api.Machine) { m.Board.Plic.Claimed |= 16 }, 170},
	}
}

// rights: machines that may be, at the edges of what may.
func rights() map[string]api.Machine {
	list := map[string]api.Machine{"busy": busy("", 3)}
	for _, name := range names() {
		list[name], _ = machine.New(programs()[name], 2)
	}
	for what, change := range map[string]func(m *api.Machine){
		"one leaf":       func(m *api.Machine) { m.Ram.Data, m.Ram.Marks = m.Ram.Data[:256], m.Ram.Marks[:1] },
		"256 leaves":     func(m *api.Machine) { m.Ram.Data, m.Ram.Marks = make([]byte, 65536), make([]uint64, 256) },
		"marks of now":   func(m *api.Machine) { m.Ram.Marks = []uint64{9, 9, 9} },
		"a late epoch":   func(m *api.Machine) { m.Ram.Marks, m.Ram.Epoch = []uint64{all, 0, all}, all },
		"User":           func(m *api.Machine) { m.Hart.Mode = 0 },
		"Supervisor":     func(m *api.Machine) { m.Hart.Mode = 1 },
		"nothing held":   func(m *api.Machine) { m.Hart.Held, m.Hart.At = false, 0 },
		"held at 0":      func(m *api.Machine) { m.Hart.At = 0 },
		"a PC far off":   func(m *api.Machine) { m.Hart.PC = all - 1 },
		"all of Mstatus": func(m *api.Machine) { m.Hart.C.Mstatus = 0xe19aa },
		"all of the sets": func(m *api.Machine) {
			c := &m.Hart.C
			c.Medeleg, c.Mideleg, c.Mie, c.Mip, c.Satp = 0xb3ff, 0x222, 0xaaa, 0x222, 0x80000fffffffffff
		},
		"all of the places": func(m *api.Machine) {
			c := &m.Hart.C
			c.Mtvec, c.Stvec, c.Mepc, c.Sepc, c.Mcause, c.Scause, c.Mtval, c.Stval = all-2, all-2, all-1, all-1, all, all, all, all
		},
		"all that waits": func(m *api.Machine) { m.Board.In, m.Board.Frames = pattern(1024, 1), frames(64, 64) },
		"nothing waits":  func(m *api.Machine) { m.Board.In, m.Board.Frames = "", nil },
		"a frame of nothing": func(m *api.Machine) {
			m.Board.Frames = []string{"", "x"}
			m.Board.Sector, m.Board.Addr, m.Board.NicAddr, m.Board.NicLen = all, all, all, all
		},
		"all of the Plic": func(m *api.Machine) {
			m.Board.Plic = api.Plic{Prio: [4]uint32{0, 7, 7, 7}, Enable: [2]uint32{14, 14}, Level: [2]uint32{7, 7}, Claimed: 14}
		},
		"records of any kind": func(m *api.Machine) {
			m.Outs = []api.Record{{Num: 9, Dev: -4, Bytes: ""}, {Num: 9, Dev: 7, Bytes: pattern(1000, 1)}, {}}
			m.Count, m.Next = all, all
		},
	} {
		m := busy("", 3)
		change(&m)
		list[what] = m
	}
	return list
}

// roomy: a machine whose lists have spare room.
func roomy(boot string) api.Machine {
	m := busy(boot, 2)
	m.Board.Frames = append(m.Board.Frames, "s", "p", "a", "r", "e")[:2]
	m.Ram.Data = append(m.Ram.Data, strings.Repeat("s", 300)...)[:512]
	m.Ram.Marks = append(m.Ram.Marks, 91, 92, 93)[:2]
	spare := api.Record{Num: 99, Dev: 99, Bytes: "spare"}
	m.Outs = append(m.Outs, spare, spare, spare)[:2]
	return m
}

// whole: the machine with its lists' spare room.
func whole(m api.Machine) api.Machine {
	m.Board.Frames, m.Outs = m.Board.Frames[:cap(m.Board.Frames)], m.Outs[:cap(m.Outs)]
	m.Ram.Data, m.Ram.Marks = m.Ram.Data[:cap(m.Ram.Data)], m.Ram.Marks[:cap(m.Ram.Marks)]
	return m
}

// scribble: other things in all lists, in the spare room too.
func scribble(m api.Machine) {
	m = whole(m)
	for i := range m.Board.Frames {
		m.Board.Frames[i] += "!"
	}
	for i := range m.Outs {
		m.Outs[i].Num, m.Outs[i].Bytes = m.Outs[i].Num+1, "!"
	}
	for i := range m.Ram.Data {
		m.Ram.Data[i] ^= 0xff
	}
	for i := range m.Ram.Marks {
		m.Ram.Marks[i] ^= 0xff
	}
}
