package hart

import (
	"fmt"
	"math"
	"math/rand"
	"slices"
	"strings"
	"testing"

	"tandem/alu"
	"tandem/api"
	"tandem/brief"
	"tandem/decode"
	"tandem/dev"
	"tandem/plic"
	"tandem/ram"
	"tandem/walk"
)

// The registers of most tests: Rd, Rs1 and Rs2.
const d, s, u = 5, 6, 7

var modes = []int{0, 1, 3}

// rightMachine: what P15.2 speaks of.
func rightMachine(m api.Machine) bool {
	return rightBy(m.Hart) && ram.Check(m.Ram) == api.OK && dev.Right(m.Board) && plic.Right(m.Board.Plic)
}

// wantPromises: P15.2 and P15.3 of a step that made after of before.
func wantPromises(t *testing.T, what string, before, after api.Machine) {
	t.Helper()
	if after.Count != before.Count+1 {
		t.Errorf("%s: Count %x, was %x", what, after.Count, before.Count)
	}
	if rightMachine(before) && !rightMachine(after) {
		t.Errorf("%s: isn't right any more", what)
	}
	in, ok := instBy(before)
	if !ok || !(in.Op >= api.Sb && in.Op <= api.Sd || in.Op >= api.LrW && in.Op <= api.MaxuAD) {
		wantNothingBut(t, what, before, after, 0, 0)
		return
	}
	place, cause := walk.Find(before.Hart.C, before.Hart.Mode, before.Ram, before.Hart.X[in.Rs1]+uint64(in.Imm), 2)
	switch {
	case cause != -1 || in.Op == api.LrW || in.Op == api.LrD:
		wantNothingBut(t, what, before, after, 0, 0)
	case place >= base:
		wantNothingBut(t, what, before, after, place-base, uint64(bytesBy(in.Op)))
	}
}

// wantNothingBut: no byte of memory changed but so many from first on.
func wantNothingBut(t *testing.T, what string, before, after api.Machine, first, size uint64) {
	t.Helper()
	same := len(before.Ram.Data) == len(after.Ram.Data) && len(before.Ram.Marks) == len(after.Ram.Marks) && before.Ram.Epoch == after.Ram.Epoch
	for i := range before.Ram.Data {
		same = same && (before.Ram.Data[i] == after.Ram.Data[i] || uint64(i)-first < size)
	}
	for i := range before.Ram.Marks {
		leaf := uint64(i)
		same = same && (before.Ram.Marks[i] == after.Ram.Marks[i] || size > 0 && leaf >= first/256 && leaf <= (first+size-1)/256)
	}
	if !same {
		t.Errorf("%s: memory changed where it may not", what)
	}
}

// on: PC goes on by so many bytes.
func on(bytes uint64, change func(m *api.Machine)) func(m *api.Machine) {
	return func(m *api.Machine) {
		m.Hart.PC += bytes
		change(m)
	}
}

func same(m *api.Machine) {}

// trapTo: a trap that the upper mode takes.
func trapTo(cause, value uint64) func(m *api.Machine) {
	return func(m *api.Machine) { toUpper(m, cause, value) }
}

// release: the reservation is gone.
func release(m *api.Machine) { m.Hart.Held, m.Hart.At = false, 0 }

// result: of d.
func result(n uint64) func(m *api.Machine) {
	return func(m *api.Machine) { m.Hart.X[d] = n }
}

// both: one change and another one.
func both(list ...func(m *api.Machine)) func(m *api.Machine) {
	return func(m *api.Machine) {
		for _, change := range list {
			change(m)
		}
	}
}

// P15.1: the examples.
func TestExamples(t *testing.T) {
	m := api.Machine{Hart: api.Hart{PC: base, Mode: 3}, Ram: api.Ram{Data: make([]byte, 256), Marks: make([]uint64, 1)}}
	m.Hart.C.Mtvec = 0x1234
	wantStep(t, "noughts", m, func(m *api.Machine) {
		m.Hart.C.Mepc, m.Hart.C.Mcause, m.Hart.C.Mstatus, m.Hart.PC = base, 2, 0x1800, 0x1234
	})
	copy(m.Ram.Data, "\x13\x05\x50\x00")
	wantStep(t, "Addi", m, func(m *api.Machine) { m.Hart.X[10], m.Hart.PC = 5, 0x80000004 })
}

// P15.1: what the Ops of package alu leave, as written down by hand: of a and b, or of a and the word's number.
func TestKnownSums(t *testing.T) {
	least := uint64(1) << 63
	for _, x := range []struct {
		op      int
		a, b, n uint64
	}{
		{api.Addi, 5, all - 6, all - 1}, {api.Addi, all, 2047, 2046}, {api.Slti, all - 9, all - 8, 1}, {api.Slti, 3, all, 0},
		{api.Sltiu, 5, all, 1}, {api.Sltiu, all, 5, 0}, {api.Xori, 0xf0f0, all, 0xffffffffffff0f0f}, {api.Ori, 0x10, 7, 0x17},
		{api.Andi, 0x123456789abcdef0, 0x7f0, 0x6f0}, {api.Andi, 0x123456789abcdef3, all - 15, 0x123456789abcdef0},
		{api.Slli, 3, 62, 3 << 62}, {api.Srli, least, 63, 1}, {api.Srai, least, 63, all}, {api.Srai, least, 32, 0xffffffff80000000},
		{api.Add, all, 2, 1}, {api.Sub, 1, 2, all}, {api.Sll, 1, 65, 2}, {api.Slt, all - 9, 3, 1}, {api.Sltu, all - 9, 3, 0},
		{api.Xor, 0xff00, 0x0ff0, 0xf0f0}, {api.Srl, all, 4, all >> 4}, {api.Sra, least, 68, 0xf800000000000000},
		{api.Or, 0xff00, 0x0ff0, 0xfff0}, {api.And, 0xff00, 0x0ff0, 0x0f00},
		{api.Addiw, 0x7fffffff, 1, 0xffffffff80000000}, {api.Addiw, 0xffffffff00000005, all, 4}, {api.Slliw, 1, 31, 0xffffffff80000000},
		{api.Srliw, 0xffffffff80000000, 31, 1}, {api.Sraiw, 0x80000000, 31, all}, {api.Addw, 0xffffffff, 1, 0}, {api.Subw, 0, 1, all},
		{api.Sllw, 1, 33, 2}, {api.Srlw, 0x780000000, 31, 1}, {api.Sraw, 0x80000000, 4, 0xfffffffff8000000},
		{api.Mul, least + 3, 2, 6}, {api.Mulh, all, 1, all}, {api.Mulhsu, all, all, all}, {api.Mulhu, all, all, all - 1},
		{api.Div, all - 6, 2, all - 2}, {api.Div, 7, 0, all}, {api.Div, least, all, least}, {api.Divu, all, 2, all >> 1}, {api.Divu, 7, 0, all},
		{api.Rem, all - 6, 2, all}, {api.Rem, 7, 0, 7}, {api.Rem, least, all, 0}, {api.Remu, 7, 4, 3}, {api.Remu, 7, 0, 7},
		{api.Mulw, 0x10000, 0x8000, 0xffffffff80000000}, {api.Divw, 0x80000000, 0xffffffff, 0xffffffff80000000}, {api.Divuw, 0xffffffff, 1, all},
		{api.Remw, 0xfffffff9, 2, all}, {api.Remuw, 0xffffffff, 16, 15},
	} {
		for _, mode := range modes {
			m := ready(mode, word(x.op, d, s, u, int(x.b)))
			m.Hart.X[s], m.Hart.X[u] = x.a, x.b
			wantStep(t, fmt.Sprintf("Op %d of %x and %x", x.op, x.a, x.b), m, on(4, result(x.n)))
		}
	}
}

// P15.1: where the program goes, as written down by hand.
func TestKnownPlaces(t *testing.T) {
	pc := base + 0x40
	for _, x := range []struct {
		what   string
		w      uint32
		a, b   uint64
		change func(m *api.Machine)
	}{
		{"Lui", word(api.Lui, d, 0, 0, 0x12345000), 0, 0, on(4, result(0x12345000))},
		{"Lui with its sign", word(api.Lui, d, 0, 0, 0x80000000), 0, 0, on(4, result(0xffffffff80000000))},
		{"Auipc", word(api.Auipc, d, 0, 0, 0x1000), 0, 0, on(4, result(base+0x1040))},
		{"Auipc back", word(api.Auipc, d, 0, 0, -0x1000), 0, 0, on(4, result(base-0xfc0))},
		{"Auipc far back", word(api.Auipc, d, 0, 0, 0x80000000), 0, 0, on(4, result(0x40))},
		{"Jal", word(api.Jal, d, 0, 0, 0x80), 0, 0, on(0x80, result(pc+4))},
		{"Jal back", word(api.Jal, d, 0, 0, -0x100000), 0, 0, func(m *api.Machine) { m.Hart.X[d], m.Hart.PC = pc+4, pc-0x100000 }},
		{"Jal by 2", word(api.Jal, d, 0, 0, 2), 0, 0, on(2, result(pc+4))},
		{"Jal on the spot", word(api.Jal, 0, 0, 0, 0), 0, 0, same},
		{"Jalr", word(api.Jalr, d, s, 0, 5), 0x1230, 0, func(m *api.Machine) { m.Hart.X[d], m.Hart.PC = pc+4, 0x1234 }},
		{"Jalr odd and odd", word(api.Jalr, d, s, 0, 5), 0x1231, 0, func(m *api.Machine) { m.Hart.X[d], m.Hart.PC = pc+4, 0x1236 }},
		{"Jalr round", word(api.Jalr, d, s, 0, -1), 0, 0, func(m *api.Machine) { m.Hart.X[d], m.Hart.PC = pc+4, all-1 }},
		{"Jalr by its own register", word(api.Jalr, s, s, 0, 2), 0x1230, 0, func(m *api.Machine) { m.Hart.X[s], m.Hart.PC = pc+4, 0x1232 }},
		{"Jalr without a way back", word(api.Jalr, 0, s, 0, 2), 0x1230, 0, func(m *api.Machine) { m.Hart.PC = 0x1232 }},
		{"Beq", word(api.Beq, 0, s, u, 0x7fe), 9, 9, on(0x7fe, same)},
		{"Beq not", word(api.Beq, 0, s, u, 0x7fe), 9, 8, on(4, same)},
		{"Bne back", word(api.Bne, 0, s, u, -0x1000), 9, 8, func(m *api.Machine) { m.Hart.PC = pc - 0x1000 }},
		{"Bne not", word(api.Bne, 0, s, u, -0x1000), 8, 8, on(4, same)},
		{"Blt", word(api.Blt, 0, s, u, 2), all, 0, on(2, same)},
		{"Blt not", word(api.Blt, 0, s, u, 2), 0, all, on(4, same)},
		{"Bge", word(api.Bge, 0, s, u, 0), 0, all, same},
		{"Bge not", word(api.Bge, 0, s, u, 0), all, 0, on(4, same)},
		{"Bltu", word(api.Bltu, 0, s, u, 8), 0, all, on(8, same)},
		{"Bltu not", word(api.Bltu, 0, s, u, 8), all, 0, on(4, same)},
		{"Bgeu", word(api.Bgeu, 0, s, u, 8), all, 0, on(8, same)},
		{"Bgeu not", word(api.Bgeu, 0, s, u, 8), 0, all, on(4, same)},
	} {
		for _, mode := range modes {
			m := ready(mode, x.w)
			m.Hart.X[s], m.Hart.X[u] = x.a, x.b
			wantStep(t, x.what, m, x.change)
		}
	}
}

// data: what the memory of TestKnownLoads holds from base and 100 (base sixteen) on: four times the sign, then four without.
const data = "\xf1\xf2\xf3\xf4\xf5\xf6\xf7\xf8\x01\x02\x03\x04\x05\x06\x07\x08"

// P15.1: loads of memory: each size, with its sign and without, at any address.
func TestKnownLoads(t *testing.T) {
	for _, x := range []struct {
		op   int
		n, m uint64 // from 100 on, and from 108 on
	}{
		{api.Lb, 0xfffffffffffffff1, 1}, {api.Lh, 0xfffffffffffff2f1, 0x0201}, {api.Lw, 0xfffffffff4f3f2f1, 0x04030201},
		{api.Ld, 0xf8f7f6f5f4f3f2f1, 0x0807060504030201},
		{api.Lbu, 0xf1, 1}, {api.Lhu, 0xf2f1, 0x0201}, {api.Lwu, 0xf4f3f2f1, 0x04030201},
	} {
		for _, mode := range modes {
			for at, n := range map[uint64]uint64{base + 0x100: x.n, base + 0x108: x.m} {
				for _, imm := range []int{0, 1, -2048, 2047} {
					m := ready(mode, word(x.op, d, s, 0, imm))
					copy(m.Ram.Data[0x100:], data)
					m.Hart.X[s] = at - uint64(imm)
					wantStep(t, fmt.Sprintf("Op %d of %x with %d", x.op, at, imm), m, on(4, result(n)))
				}
			}
			m := ready(mode, word(x.op, d, d, 0, 2))
			m.Hart.X[d] = base + 0xff
			copy(m.Ram.Data[0x101:], data)
			wantStep(t, fmt.Sprintf("Op %d by its own register, at an odd address", x.op), m, on(4, result(x.n)))
			size := uint64(bytesBy(x.op))
			for _, at := range []uint64{base + 768 - size, base + 769 - size, base, base - 1, base - size, 0, all, 0x40000000} {
				m := ready(mode, word(x.op, d, s, 0, 3))
				m.Hart.X[s] = at - 3
				if at == base || at == base+768-size {
					wantWords(t, fmt.Sprintf("Op %d of %x", x.op, at), m)
					continue
				}
				wantStep(t, fmt.Sprintf("Op %d of %x", x.op, at), m, trapTo(5, at))
			}
		}
	}
}

// P15.1: stores into memory: each size, at any address; nothing else changes but the mark and the reservation.
func TestKnownStores(t *testing.T) {
	for _, x := range []struct {
		op   int
		text string
	}{
		{api.Sb, "A"}, {api.Sh, "AB"}, {api.Sw, "ABCD"}, {api.Sd, "ABCDEFGH"},
	} {
		for _, mode := range modes {
			for _, imm := range []int{0, 5, -2048, 2047} {
				m := ready(mode, word(x.op, 0, s, u, imm))
				m.Hart.X[s], m.Hart.X[u] = base+0x101-uint64(imm), 0x4847464544434241
				wantStep(t, fmt.Sprintf("Op %d", x.op), m, on(4, func(m *api.Machine) {
					copy(m.Ram.Data[0x101:], x.text)
					m.Ram.Marks[1] = 9
					release(m)
				}))
			}
			size := uint64(len(x.text))
			m := ready(mode, word(x.op, 0, s, u, 0))
			m.Hart.X[s], m.Hart.X[u] = base+768-size, 0x4847464544434241
			wantStep(t, fmt.Sprintf("Op %d at memory's end", x.op), m, on(4, func(m *api.Machine) {
				copy(m.Ram.Data[768-size:], x.text)
				m.Ram.Marks[2] = 9
				release(m)
			}))
			m.Hart.X[s], m.Hart.X[u] = base+0x200-size/2, 0x4847464544434241
			wantStep(t, fmt.Sprintf("Op %d across two leaves", x.op), m, on(4, func(m *api.Machine) {
				copy(m.Ram.Data[0x200-size/2:], x.text)
				m.Ram.Marks[2] = 9
				if size > 1 {
					m.Ram.Marks[1] = 9
				}
				release(m)
			}))
			for _, at := range []uint64{base + 769 - size, base - 1, base - size, 0, all, 0x40000000} {
				m.Hart.X[s] = at
				wantStep(t, fmt.Sprintf("Op %d at %x", x.op, at), m, trapTo(7, at))
			}
		}
	}
	m := ready(3, word(api.Sd, 0, s, s, 0))
	m.Hart.X[s] = base + 0x100
	wantStep(t, "an address at itself", m, on(4, func(m *api.Machine) {
		copy(m.Ram.Data[0x100:], "\x00\x01\x00\x80\x00\x00\x00\x00")
		m.Ram.Marks[1] = 9
		release(m)
	}))
	m = ready(3, word(api.Sw, 0, s, u, 0))
	m.Hart.X[s], m.Hart.X[u] = base+0x40, uint64(word(api.Addi, d, 0, 0, 9))
	behind := wantWords(t, "an instruction over itself", m)
	behind.Hart.PC -= 4
	wantStep(t, "what was laid there", behind, on(4, result(9)))
}

// P15.1: loads and stores of devices.
func TestDevices(t *testing.T) {
	for _, x := range []struct {
		what   string
		op     int
		at, v  uint64
		change func(m *api.Machine)
	}{
		{"a byte of the serial line", api.Lbu, 0x10000000, 0, on(4, both(result(0xf0), func(m *api.Machine) { m.Board.In = "bc" }))},
		{"with its sign", api.Lb, 0x10000000, 0, on(4, both(result(all-15), func(m *api.Machine) { m.Board.In = "bc" }))},
		{"two bytes of it", api.Lh, 0x10000000, 0, trapTo(5, 0x10000000)},
		{"eight bytes of it", api.Ld, 0x10000000, 0, trapTo(5, 0x10000000)},
		{"does it wait", api.Lb, 0x10000005, 0, on(4, result(0x61))},
		{"Msip", api.Lw, 0x2000000, 0, on(4, result(1))},
		{"Cmp", api.Ld, 0x2004000, 0, on(4, result(0x1122334455667788))},
		{"half of Cmp", api.Lw, 0x2004000, 0, trapTo(5, 0x2004000)},
		{"the count, of the steps behind", api.Ld, 0x200bff8, 0, on(4, result(1000))},
		{"Done", api.Ld, 0x10001018, 0, on(4, both(result(3), func(m *api.Machine) { m.Board.Done = false }))},
		{"an order isn't read", api.Ld, 0x10001010, 0, trapTo(5, 0x10001010)},
		{"a claim", api.Lw, 0xc200004, 0, on(4, both(result(3), func(m *api.Machine) { m.Board.Plic.Claimed = 12 }))},
		{"a claim without a sign", api.Lwu, 0xc200004, 0, on(4, both(result(3), func(m *api.Machine) { m.Board.Plic.Claimed = 12 }))},
		{"plic's addresses by eight", api.Ld, 0xc000004, 0, trapTo(5, 0xc000004)},
		{"no place of plic's", api.Lw, 0xc3ffffc, 0, trapTo(5, 0xc3ffffc)},
		{"a byte goes out", api.Sb, 0x10000000, 0x4241, on(4, both(release, func(m *api.Machine) {
			m.Outs, m.Next = append(m.Outs, api.Record{Num: 7, Dev: api.Serial, Bytes: "A"}), 8
		}))},
		{"two bytes don't", api.Sh, 0x10000000, 0x4241, trapTo(7, 0x10000000)},
		{"nothing is written there", api.Sb, 0x10000005, 1, trapTo(7, 0x10000005)},
		{"the count isn't written", api.Sd, 0x200bff8, 1, trapTo(7, 0x200bff8)},
		{"Cmp is written", api.Sd, 0x2004000, all, on(4, both(release, func(m *api.Machine) { m.Board.Cmp = all }))},
		{"Level", api.Sw, 0xc200000, all, on(4, both(release, func(m *api.Machine) { m.Board.Plic.Level[0] = 7 }))},
		{"a sector is read", api.Sd, 0x10001010, 1, on(4, both(release, func(m *api.Machine) {
			m.Board.Bad = false
			copy(m.Ram.Data[0x80:], m.Board.Sectors[192:256])
			m.Ram.Marks[0] = 9
		}))},
		{"a sector is written", api.Sd, 0x10001010, 2, on(4, both(release, func(m *api.Machine) {
			m.Board.Bad = false
			m.Board.Sectors = m.Board.Sectors[:192] + string(m.Ram.Data[0x80:0xc0]) + m.Board.Sectors[256:]
		}))},
		{"a frame comes in", api.Sd, 0x10002010, 1, on(4, both(release, func(m *api.Machine) {
			m.Board.Frames = m.Board.Frames[1:]
			copy(m.Ram.Data[0xc0:], "first")
			m.Ram.Marks[0] = 9
		}))},
		{"a frame goes out", api.Sd, 0x10002010, 2, on(4, both(release, func(m *api.Machine) {
			m.Outs, m.Next = append(m.Outs, api.Record{Num: 7, Dev: api.Network, Bytes: string(m.Ram.Data[0xc0:0xc5])}), 8
		}))},
	} {
		for _, mode := range modes {
			m := ready(mode, word(x.op, d, s, u, -3))
			m.Hart.X[s], m.Hart.X[u] = x.at+3, x.v
			wantStep(t, x.what, m, x.change)
		}
	}
	m := ready(1, word(api.Lbu, 0, s, 0, 0))
	m.Hart.X[s] = 0x10000000
	wantStep(t, "a byte that is lost is taken out all the same", m, on(4, func(m *api.Machine) { m.Board.In = "bc" }))
}

// P15.1: the six that read and write control registers.
func TestKnownControl(t *testing.T) {
	for _, x := range []struct {
		what   string
		mode   int
		w      uint32
		a      uint64
		change func(m *api.Machine)
	}{
		{"Csrrw", 3, word(api.Csrrw, d, s, 0, 0x340), 0xabc, on(4, both(result(3), func(m *api.Machine) { m.Hart.C.Mscratch = 0xabc }))},
		{"Csrrs", 3, word(api.Csrrs, d, s, 0, 0x340), 0xab0, on(4, both(result(3), func(m *api.Machine) { m.Hart.C.Mscratch = 0xab3 }))},
		{"Csrrc", 3, word(api.Csrrc, d, s, 0, 0x340), 0xab1, on(4, both(result(3), func(m *api.Machine) { m.Hart.C.Mscratch = 2 }))},
		{"Csrrwi", 3, word(api.Csrrwi, d, 21, 0, 0x340), 0, on(4, both(result(3), func(m *api.Machine) { m.Hart.C.Mscratch = 21 }))},
		{"Csrrsi", 3, word(api.Csrrsi, d, 20, 0, 0x340), 0, on(4, both(result(3), func(m *api.Machine) { m.Hart.C.Mscratch = 23 }))},
		{"Csrrci", 3, word(api.Csrrci, d, 17, 0, 0x340), 0, on(4, both(result(3), func(m *api.Machine) { m.Hart.C.Mscratch = 2 }))},
		{"Csrrw of register 0", 3, word(api.Csrrw, d, 0, 0, 0x340), 0, on(4, both(result(3), func(m *api.Machine) { m.Hart.C.Mscratch = 0 }))},
		{"Csrrwi of 0", 3, word(api.Csrrwi, d, 0, 0, 0x340), 0, on(4, both(result(3), func(m *api.Machine) { m.Hart.C.Mscratch = 0 }))},
		{"Csrrs of register 0", 3, word(api.Csrrs, d, 0, 0, 0x340), 0, on(4, result(3))},
		{"Csrrc of register 0", 3, word(api.Csrrc, d, 0, 0, 0x340), 0, on(4, result(3))},
		{"Csrrsi of 0", 3, word(api.Csrrsi, d, 0, 0, 0x340), 0, on(4, result(3))},
		{"Csrrci of 0", 3, word(api.Csrrci, d, 0, 0, 0x340), 0, on(4, result(3))},
		{"Csrrs of a register that holds 0", 3, word(api.Csrrs, d, s, 0, 0x340), 0, on(4, result(3))},
		{"Csrrs of register 1", 3, word(api.Csrrs, d, 1, 0, 0x340), 0, on(4, both(result(3), func(m *api.Machine) { m.Hart.C.Mscratch = 0x0101010101010103 }))},
		{"Csrrc of register 1", 3, word(api.Csrrc, d, 1, 0, 0x340), 0, on(4, both(result(3), func(m *api.Machine) { m.Hart.C.Mscratch = 2 }))},
		{"Csrrsi of 4", 3, word(api.Csrrsi, d, 4, 0, 0x340), 0, on(4, both(result(3), func(m *api.Machine) { m.Hart.C.Mscratch = 7 }))},
		{"Csrrci of 1", 3, word(api.Csrrci, d, 1, 0, 0x340), 0, on(4, both(result(3), func(m *api.Machine) { m.Hart.C.Mscratch = 2 }))},
		{"an exchange", 3, word(api.Csrrw, s, s, 0, 0x340), 0xabc, on(4, func(m *api.Machine) { m.Hart.X[s], m.Hart.C.Mscratch = 3, 0xabc })},
		{"a result that is lost", 3, word(api.Csrrw, 0, s, 0, 0x340), 0xabc, on(4, func(m *api.Machine) { m.Hart.C.Mscratch = 0xabc })},
		{"Mstatus takes its own bits", 3, word(api.Csrrw, d, s, 0, 0x300), 0x1001000, on(4, both(result(0x28), func(m *api.Machine) { m.Hart.C.Mstatus = 0 }))},
		{"another mode's register", 1, word(api.Csrrw, d, s, 0, 0x340), 1, trapTo(2, uint64(word(api.Csrrw, d, s, 0, 0x340)))},
		{"it may not be read either", 0, word(api.Csrrs, d, 0, 0, 0x140), 0, trapTo(2, uint64(word(api.Csrrs, d, 0, 0, 0x140)))},
		{"the middle mode's own", 1, word(api.Csrrw, d, s, 0, 0x140), 1, on(4, both(result(8), func(m *api.Machine) { m.Hart.C.Sscratch = 1 }))},
		{"the upper mode may too", 3, word(api.Csrrw, d, s, 0, 0x140), 1, on(4, both(result(8), func(m *api.Machine) { m.Hart.C.Sscratch = 1 }))},
		{"there is none", 3, word(api.Csrrw, d, s, 0, 0x345), 1, trapTo(2, uint64(word(api.Csrrw, d, s, 0, 0x345)))},
		{"there is none, with all bits", 3, word(api.Csrrci, d, 31, 0, 0xfff), 1, trapTo(2, 0xfffff2f3)},
		{"the count is read by anyone", 0, word(api.Csrrs, d, 0, 0, 0xc00), 0, on(4, result(1000))},
		{"by Csrrc of register 0 too", 1, word(api.Csrrc, d, 0, 0, 0xc01), 0, on(4, result(1000))},
		{"by Csrrsi of 0 too", 0, word(api.Csrrsi, d, 0, 0, 0xc00), 0, on(4, result(1000))},
		{"by Csrrci of 0 too", 0, word(api.Csrrci, d, 0, 0, 0xc02), 0, on(4, result(1000))},
		{"it may not be written", 3, word(api.Csrrs, d, s, 0, 0xc00), 0, trapTo(2, uint64(word(api.Csrrs, d, s, 0, 0xc00)))},
		{"by Csrrw of register 0 neither", 3, word(api.Csrrw, d, 0, 0, 0xc01), 0, trapTo(2, uint64(word(api.Csrrw, d, 0, 0, 0xc01)))},
		{"one that is 0 may not be written", 3, word(api.Csrrci, d, 1, 0, 0xf14), 0, trapTo(2, uint64(word(api.Csrrci, d, 1, 0, 0xf14)))},
		{"one that is 0", 3, word(api.Csrrci, d, 0, 0, 0xf14), 0, on(4, result(0))},
		{"what is lost is no fault", 3, word(api.Csrrw, d, s, 0, 0xb00), 5, on(4, result(1000))},
		{"the lines", 3, word(api.Csrrs, d, 0, 0, 0x344), 0, on(4, result(0x808))},
		{"the lines with bits of a program's own", 3, word(api.Csrrs, d, s, 0, 0x344), 0xfff, on(4, both(result(0x808), func(m *api.Machine) { m.Hart.C.Mip = 0x222 }))},
	} {
		m := ready(x.mode, x.w)
		m.Hart.X[s] = x.a
		wantStep(t, x.what, m, x.change)
	}
}

// P15.1: the atomic ones of memory, as written down by hand.
func TestKnownAtomics(t *testing.T) {
	was, given := uint64(0xf0f0f0f0_80000001), uint64(0x0ff00ff0_00000003)
	for _, x := range []struct {
		op     int
		stored uint64
	}{
		{api.SwapW, 3}, {api.AddAW, 0x80000004}, {api.XorAW, 0x80000002}, {api.AndAW, 1}, {api.OrAW, 0x80000003},
		{api.MinAW, 0x80000001}, {api.MaxAW, 3}, {api.MinuAW, 3}, {api.MaxuAW, 0x80000001},
		{api.SwapD, given}, {api.AddAD, 0x00e100e0_80000004}, {api.XorAD, 0xff00ff00_80000002}, {api.AndAD, 0x00f000f0_00000001},
		{api.OrAD, 0xfff0fff0_80000003}, {api.MinAD, was}, {api.MaxAD, given}, {api.MinuAD, given}, {api.MaxuAD, was},
	} {
		size, told := bytesBy(x.op), was
		if size == 4 {
			told = 0xffffffff80000001
		}
		for _, mode := range modes {
			for _, regs := range [][3]uint32{{d, s, u}, {0, s, u}, {s, s, u}, {u, s, u}} {
				m := ready(mode, word(x.op, regs[0], regs[1], regs[2], 0))
				lay(&m, base+0x108, 8, was)
				m.Hart.X[s], m.Hart.X[u] = base+0x108, given
				wantStep(t, fmt.Sprintf("Op %d with Rd %d", x.op, regs[0]), m, on(4, func(m *api.Machine) {
					lay(m, base+0x108, size, x.stored)
					m.Ram.Marks[1] = 9
					release(m)
					if regs[0] != 0 {
						m.Hart.X[regs[0]] = told
					}
				}))
			}
		}
	}
}

// P15.1: the edges of the atomic ones: what isn't a multiple, what isn't memory's, which goes ahead.
func TestAtomicPlaces(t *testing.T) {
	for _, c := range codes() {
		size := uint64(bytesBy(c.op))
		if c.op < api.LrW || c.op > api.MaxuAD {
			continue
		}
		odd, missing := uint64(6), uint64(7)
		if c.op == api.LrW || c.op == api.LrD {
			odd, missing = 4, 5
		}
		for _, mode := range modes {
			for _, held := range []bool{false, true} {
				m := ready(mode, c.word(d, s, u, 0))
				m.Hart.Held, m.Hart.At = held, 0
				for d := uint64(1); d < size; d++ {
					for _, at := range []uint64{base + 0x100, 0x10000000, 0x40000000, base - 8} {
						m.Hart.X[s] = at + d
						wantStep(t, fmt.Sprintf("Op %d at %x", c.op, at+d), m, trapTo(odd, at+d))
					}
				}
				for _, at := range []uint64{0, 0x2000000, 0x2004000, 0xc000008, 0xc200004 &^ 7, 0x10000000, 0x10001010, 0x10001018,
					0x40000000, base - 8, base + 768, base + 1<<32, all - 7} {
					m.Hart.X[s] = at
					wantStep(t, fmt.Sprintf("Op %d at %x", c.op, at), m, trapTo(missing, at))
				}
				for _, at := range []uint64{base, base + 768 - size, base + 0x100} {
					m.Hart.X[s], m.Hart.At = at, 0
					if held {
						m.Hart.At = at
					}
					if got := wantWords(t, fmt.Sprintf("Op %d at %x", c.op, at), m); got.Hart.PC != base+0x44 {
						t.Errorf("Op %d at %x: PC %x", c.op, at, got.Hart.PC)
					}
				}
			}
		}
	}
}

// P15.1: Lr and Sc with the reservation there, gone and elsewhere.
func TestReservation(t *testing.T) {
	at := base + 0x100
	for _, x := range []struct {
		lr, sc int
		size   int
		told   uint64
	}{
		{api.LrW, api.ScW, 4, 0xfffffffff4f3f2f1}, {api.LrD, api.ScD, 8, 0xf8f7f6f5f4f3f2f1},
	} {
		for _, mode := range modes {
			m := ready(mode, word(x.lr, d, s, 0, 0), word(x.sc, d, s, u, 0))
			copy(m.Ram.Data[0x100:], data)
			m.Hart.X[s], m.Hart.X[u] = at, 0x4847464544434241
			m.Hart.Held, m.Hart.At = false, 0
			stores := on(4, func(m *api.Machine) {
				copy(m.Ram.Data[0x100:], "ABCDEFGH"[:x.size])
				m.Ram.Marks[1] = 9
				m.Hart.X[d] = 0
				release(m)
			})
			fails := on(4, func(m *api.Machine) {
				m.Hart.X[d] = 1
				release(m)
			})
			wantStep(t, "Lr", m, on(4, both(result(x.told), func(m *api.Machine) { m.Hart.Held, m.Hart.At = true, at })))
			Step(&m)
			wantStep(t, "Sc", m, stores)
			elsewhere := twin(m)
			elsewhere.Hart.At += 8
			wantStep(t, "Sc elsewhere", elsewhere, fails)
			elsewhere.Hart.At = at + 1<<32
			wantStep(t, "Sc far away", elsewhere, fails)
			gone := twin(m)
			release(&gone)
			wantStep(t, "Sc without Lr", gone, fails)
			gone.Hart.At = at
			wantStep(t, "Sc of what isn't Held", gone, fails)
			second := twin(m)
			Step(&second)
			second.Hart.PC -= 4
			wantStep(t, "Sc once more", second, fails)
			lost := twin(m)
			lay(&lost, lost.Hart.PC, 4, uint64(word(x.sc, 0, s, u, 0)))
			wantStep(t, "Sc whose result is lost", lost, both(stores, result(m.Hart.X[d])))
			own := twin(m)
			lay(&own, own.Hart.PC, 4, uint64(word(x.sc, s, s, s, 0)))
			wantStep(t, "Sc of its own register", own, on(4, func(m *api.Machine) {
				copy(m.Ram.Data[0x100:], "\x00\x01\x00\x80\x00\x00\x00\x00"[:x.size])
				m.Ram.Marks[1], m.Hart.X[s] = 9, 0
				release(m)
			}))
		}
	}
	m := ready(3, word(api.ScW, d, s, u, 0))
	m.Hart.X[s], m.Hart.Held, m.Hart.At = 0, true, 0
	wantStep(t, "a reservation at 0, which isn't memory's", m, trapTo(7, 0))
	m.Hart.X[s], m.Hart.At = at, at
	lay(&m, m.Hart.PC, 4, uint64(word(api.ScD, d, s, u, 0)))
	wantStep(t, "Sc of eight bytes behind Lr of four", m, on(4, func(m *api.Machine) {
		lay(m, at, 8, m.Hart.X[u])
		m.Ram.Marks[1], m.Hart.X[d] = 9, 0
		release(m)
	}))
}

// P15.1: what keeps the reservation: all that neither stores, nor traps.
func TestKeepsReservation(t *testing.T) {
	for _, w := range []uint32{
		word(api.Addi, d, s, 0, 1), word(api.Lw, d, s, 0, 0), word(api.Jal, d, 0, 0, 8), word(api.Fence, 0, 0, 0, 0), word(api.FenceI, 0, 0, 0, 0),
		word(api.Wfi, 0, 0, 0, 0), word(api.Csrrw, d, s, 0, 0x340), word(api.Mret, 0, 0, 0, 0), word(api.Sret, 0, 0, 0, 0), word(api.Sfence, 0, s, u, 0),
	} {
		m := ready(3, w)
		m.Hart.X[s] = base + 0x100
		if got := wantWords(t, fmt.Sprintf("%08x", w), m); !got.Hart.Held || got.Hart.At != base+0x2f8 {
			t.Errorf("%08x: the reservation is gone", w)
		}
	}
}

// P15.1: traps that instructions are, by the modes and by who takes them.
func TestKnownTraps(t *testing.T) {
	pc := base + 0x40
	for _, mode := range modes {
		wantStep(t, "Ecall", ready(mode, word(api.Ecall, 0, 0, 0, 0)), trapTo(8+uint64(mode), 0))
		wantStep(t, "Ebreak", ready(mode, word(api.Ebreak, 0, 0, 0, 0)), trapTo(3, pc))
		wantStep(t, "a short Ebreak", readyShort(mode, 0x9002), trapTo(3, pc))
		for cause, w := range map[uint64]uint32{8 + uint64(mode): word(api.Ecall, 0, 0, 0, 0), 3: word(api.Ebreak, 0, 0, 0, 0)} {
			m := ready(mode, w)
			m.Hart.C.Medeleg = 0xb3ff
			value := uint64(0)
			if cause == 3 {
				value = pc
			}
			change := func(m *api.Machine) { toMiddle(m, cause, value) }
			if mode == 3 {
				change = trapTo(cause, value)
			}
			wantStep(t, "handed down", m, change)
			m.Hart.C.Medeleg, m.Hart.C.Mideleg = 0xb3ff&^(1<<cause), 0x222
			wantStep(t, "others are handed down", m, trapTo(cause, value))
		}
	}
	m := ready(1, word(api.Lw, d, s, 0, 0))
	m.Hart.C.Medeleg, m.Hart.X[s] = 1<<5, 9
	wantStep(t, "a load, handed down", m, func(m *api.Machine) { toMiddle(m, 5, 9) })
}

// P15.1: interrupts: which come, ahead of what, and which don't.
func TestInterrupts(t *testing.T) {
	trapping := []uint32{0, word(api.Ecall, 0, 0, 0, 0), word(api.Lw, d, 0, 0, 0), word(api.Addi, d, s, 0, 1), word(api.Sb, 0, s, u, 0)}
	for _, w := range trapping {
		for _, mode := range modes {
			m := ready(mode, w)
			m.Hart.X[s] = 0x10000000
			m.Hart.C.Mie = 8
			wantStep(t, "Msip, ahead of the instruction", m, trapTo(interrupt+3, 0))
			m.Hart.PC = 6
			wantStep(t, "Msip, ahead of a place that isn't there", m, trapTo(interrupt+3, 0))
			m.Hart.PC = base + 0x40
			m.Hart.C.Mie = 0x808
			wantStep(t, "the devices ahead of it", m, trapTo(interrupt+11, 0))
			m.Hart.C.Mtvec--
			wantStep(t, "one place for all", m, trapTo(interrupt+11, 0))
			m.Hart.C.Mie, m.Hart.C.Mip, m.Hart.C.Mideleg, m.Hart.C.Mstatus = 0x222, 0x20, 0x222, 2
			if mode < 3 {
				wantStep(t, "one of the program's own, handed down", m, func(m *api.Machine) { toMiddle(m, interrupt+5, 0) })
			} else {
				wantWords(t, "the lower ones don't come", m)
			}
			m.Hart.C.Mstatus = 8
			if mode == 0 {
				wantStep(t, "below Supervisor it comes without SIE", m, func(m *api.Machine) { toMiddle(m, interrupt+5, 0) })
			} else if got := wantWords(t, "it doesn't come", m); got.Hart.C.Scause == interrupt+5 || got.Hart.C.Mcause == interrupt+5 {
				t.Errorf("%08x in mode %d: an interrupt came", w, mode)
			}
		}
	}
	m := ready(3, word(api.Addi, d, 0, 0, 1))
	m.Hart.C.Mie, m.Hart.C.Mstatus = 0xaaa, 0
	wantStep(t, "none in mode Boss without MIE", m, on(4, result(1)))
	m.Hart.C.Mie, m.Hart.C.Mstatus, m.Board.Msip = 0xaaa, 8, false
	m.Board.Plic.Enable = [2]uint32{}
	wantStep(t, "none is on", m, on(4, result(1)))
	m.Board.Cmp = 1001
	wantStep(t, "the clock, a step ahead", m, on(4, result(1)))
	m.Count++
	wantStep(t, "the clock", m, trapTo(interrupt+7, 0))
	m.Count = all
	wantStep(t, "the clock at the greatest count", m, trapTo(interrupt+7, 0))
	wantStep(t, "at no place at all", ready(1), func(m *api.Machine) {
		by := twin(*m)
		stepBy(&by)
		by.Count--
		*m = by
	})
}

// P15.1: the ways back.
func TestWaysBack(t *testing.T) {
	mret, sret := word(api.Mret, 0, 0, 0, 0), word(api.Sret, 0, 0, 0, 0)
	for _, mode := range []int{0, 1} {
		wantStep(t, "Mret", ready(mode, mret), trapTo(2, uint64(mret)))
	}
	wantStep(t, "Sret in mode User", ready(0, sret), trapTo(2, uint64(sret)))
	for _, mode := range []int{0, 1, 3} {
		m := ready(3, mret)
		m.Hart.C.Mstatus = uint64(mode)<<11 | 0x20080
		wantStep(t, "Mret", m, func(m *api.Machine) {
			m.Hart.Mode, m.Hart.PC, m.Hart.C.Mstatus = mode, 4, 0x88
			if mode == 3 {
				m.Hart.C.Mstatus = 0x20088
			}
		})
	}
	for _, mode := range []int{1, 3} {
		for back := range 2 {
			m := ready(mode, sret)
			m.Hart.C.Mstatus = uint64(back)<<8 | 0x20020
			wantStep(t, "Sret", m, func(m *api.Machine) { m.Hart.Mode, m.Hart.PC, m.Hart.C.Mstatus = back, 10, 0x22 })
		}
	}
	for _, mode := range modes {
		m := ready(mode, word(api.Ecall, 0, 0, 0, 0))
		there := wantWords(t, "Ecall", m)
		there.Hart.PC = base + 0x100
		lay(&there, there.Hart.PC, 4, uint64(mret))
		if back := wantWords(t, "Mret", there); back.Hart.PC != m.Hart.PC || back.Hart.Mode != mode || back.Hart.X != m.Hart.X {
			t.Errorf("there and back from mode %d: mode %d, PC %x", mode, back.Hart.Mode, back.Hart.PC)
		}
	}
}

// P15.1: Wfi, Fence, FenceI and Sfence in each mode.
func TestNothingDone(t *testing.T) {
	for _, mode := range modes {
		for _, op := range []int{api.Wfi, api.Fence, api.FenceI} {
			wantStep(t, fmt.Sprintf("Op %d in mode %d", op, mode), ready(mode, word(op, 0, 0, 0, 0)), on(4, same))
		}
		wantStep(t, "Fence with all its free bits", ready(mode, 0xfff00f8f|0xf8000), on(4, same))
		w := word(api.Sfence, 0, s, u, 0)
		if mode == 0 {
			wantStep(t, "Sfence in mode User", ready(mode, w), trapTo(2, uint64(w)))
		} else {
			wantStep(t, "Sfence", ready(mode, w), on(4, same))
		}
	}
}

// P15.1: register 0 as a destination and as a source.
func TestRegister0(t *testing.T) {
	for _, mode := range modes {
		for _, c := range codes() {
			for _, regs := range [][3]uint32{{0, s, u}, {d, 0, u}, {d, s, 0}, {0, 0, 0}, {s, s, u}, {u, s, u}, {s, s, s}, {31, 31, 31}} {
				m := ready(mode, c.word(regs[0], regs[1], regs[2], 0x140))
				m.Hart.X[s] = base + 0x100
				if got := wantWords(t, fmt.Sprintf("Op %d with %v", c.op, regs), m); got.Hart.X[0] != 0 {
					t.Errorf("Op %d with %v: register 0 is %x", c.op, regs, got.Hart.X[0])
				}
			}
		}
		wantStep(t, "a result that is lost", ready(mode, word(api.Addi, 0, s, 0, 1)), on(4, same))
		wantStep(t, "a sum of noughts", ready(mode, word(api.Add, d, 0, 0, 0)), on(4, result(0)))
		wantStep(t, "Rd and Rs1 the same", ready(mode, word(api.Addi, d, d, 0, 1)), on(4, result(0x0505050505050506)))
	}
}

// P15.1: PC at the edges of memory and far from it.
func TestFetch(t *testing.T) {
	long, short := word(api.Addi, d, 0, 0, 9), uint64(0x4295) // the short one: Addi of register 5, 5
	for _, mode := range modes {
		m := ready(mode)
		for _, pc := range []uint64{0, 2, 0x10000000, 0x10001000, 0xc000004, base - 4, base - 2, base + 768, base + 770, base << 1, base + 1<<63, 1 << 63, all - 7, all - 3, all - 1} {
			m.Hart.PC = pc
			wantStep(t, fmt.Sprintf("PC %x", pc), m, trapTo(1, pc))
		}
		m.Hart.PC = base + 766
		lay(&m, base+766, 2, uint64(long))
		wantStep(t, "the second two bytes behind the end", m, trapTo(1, base+768))
		lay(&m, base+766, 2, 0xffff)
		wantStep(t, "no instruction, the second two bytes behind the end", m, trapTo(1, base+768))
		lay(&m, base+766, 2, short)
		wantStep(t, "a short one at the end", m, on(2, result(5)))
		lay(&m, base+766, 2, 0)
		wantStep(t, "no short one at the end", m, trapTo(2, 0))
		m.Hart.PC = base + 764
		lay(&m, base+764, 4, uint64(long))
		wantStep(t, "a long one at the end", m, on(4, result(9)))
		m.Hart.PC = base
		lay(&m, base, 4, uint64(long))
		wantStep(t, "the first one", m, on(4, result(9)))
		m.Hart.PC = base + 2
		lay(&m, base+2, 4, uint64(long))
		wantStep(t, "a long one at no multiple of 4", m, on(4, result(9)))
		m.Hart.PC = base + 254
		lay(&m, base+254, 4, uint64(long))
		wantStep(t, "a long one across two leaves", m, on(4, result(9)))
	}
	m := ready(3, long)
	m.Hart.PC++
	lay(&m, m.Hart.PC, 4, uint64(long))
	wantStep(t, "an odd PC", m, on(4, result(9)))
	m.Hart.PC = base + 767
	wantStep(t, "an odd PC at the end", m, func(m *api.Machine) {
		toUpper(m, 1, base+767)
		m.Hart.C.Mepc = base + 766
	})
	m.Hart.PC = base - 1
	wantStep(t, "an odd PC ahead of memory", m, func(m *api.Machine) {
		toUpper(m, 1, base-1)
		m.Hart.C.Mepc = base - 2
	})
}

// P15.1: words and short ones that are no instruction.
func TestNoInstruction(t *testing.T) {
	for _, mode := range modes {
		for _, w := range []uint32{0xffffffff, 0x7f, 0x00002003 | 5<<12, 0x00001067, 0x00002063, 0x00007003, 0x00004023, 0x80000033, 0x00200073, 0x1000202f | 1<<20, 0x0000402f,
			0x10200073 | d<<7, 0x12000073 | d<<7, 0x80000013 | 1<<12, 0x0200101b} {
			if _, err := decode.Word(w); err == api.OK {
				t.Fatalf("%08x is an instruction", w)
			}
			wantStep(t, fmt.Sprintf("%08x", w), ready(mode, w), trapTo(2, uint64(w)))
		}
		for _, h := range []uint16{0, 0x8000, 0x2000, 0x2001, 0x6001, 0x6101, 0x9c41, 0x4002, 0x8002, 0xa000, 0xa002} {
			wantStep(t, fmt.Sprintf("%04x", h), readyShort(mode, h), trapTo(2, uint64(h)))
		}
	}
}

// P15.1: Count near its greatest.
func TestCount(t *testing.T) {
	for _, count := range []uint64{0, 1, 1<<32 - 1, 1<<63 - 1, all - 1, all} {
		for _, w := range []uint32{word(api.Addi, d, 0, 0, 1), 0, word(api.Ecall, 0, 0, 0, 0), word(api.Mret, 0, 0, 0, 0), word(api.Csrrs, d, 0, 0, 0xc00)} {
			m := ready(3, w)
			m.Count, m.Board.Cmp = count, all
			got := wantWords(t, fmt.Sprintf("%08x at count %x", w, count), m)
			if got.Count != count+1 {
				t.Errorf("%08x at count %x: %x", w, count, got.Count)
			}
		}
	}
	m := ready(0, word(api.Csrrs, d, 0, 0, 0xc02))
	m.Count = all
	wantStep(t, "the greatest count is read", m, func(m *api.Machine) { m.Hart.X[d], m.Hart.PC = all, base+0x44 })
}

// The bits of a page.
const (
	aPage = 0xcf // all but U: V, R, W, X, A, D
	bitU  = 0x10
)

// paged: a machine whose addresses go through tables: those of the first 2 MiB, and of the last, through the one in page 3
// of memory, of which page n (by bits 20:12 of the address) lies at entry n; none is there yet.
func paged(mode int) api.Machine {
	m := ready(mode)
	m.Ram = api.Ram{Data: make([]byte, 65536), Marks: make([]uint64, 256), Epoch: 1}
	m.Hart.C.Satp = 8<<60 | 0x80001
	for _, n := range []uint64{0, 511} {
		lay(&m, base+0x1000+8*n, 8, 0x80002<<10|1)
		lay(&m, base+0x2000+8*n, 8, 0x80003<<10|1)
	}
	m.Hart.PC = 0x5000
	return m
}

// page: entry n leads to this address's page, with these bits, as the mode needs them.
func page(m *api.Machine, n, to uint64, bits uint64) {
	if m.Hart.Mode == 0 {
		bits |= bitU
	}
	lay(m, base+0x3000+8*n, 8, to>>12<<10|bits)
}

// P15.1: addresses that go through tables: each kind of access, and what keeps from it.
func TestPages(t *testing.T) {
	for _, mode := range []int{0, 1} {
		m := paged(mode)
		wantStep(t, "no page to run", m, trapTo(12, 0x5000))
		page(&m, 5, base+0x6000, aPage)
		wantStep(t, "noughts to run", m, trapTo(2, 0))
		lay(&m, base+0x6000, 4, uint64(word(api.Addi, d, 0, 0, 9)))
		wantStep(t, "Addi", m, on(4, result(9)))
		page(&m, 5, base+0x6000, aPage&^8)
		wantStep(t, "a page that isn't to be run", m, trapTo(12, 0x5000))
		page(&m, 5, 0x10000000, aPage)
		wantStep(t, "a device to run", m, trapTo(1, 0x5000))
		page(&m, 5, base+0x10000, aPage)
		wantStep(t, "a page behind memory's end", m, trapTo(1, 0x5000))

		lay(&m, base+0x6ffe, 2, uint64(word(api.Addi, d, 0, 0, 9)))
		lay(&m, base+0x8000, 2, uint64(word(api.Addi, d, 0, 0, 9)>>16))
		page(&m, 5, base+0x6000, aPage)
		m.Hart.PC = 0x5ffe
		wantStep(t, "the second page isn't there", m, trapTo(12, 0x6000))
		page(&m, 6, 0x10000000, aPage)
		wantStep(t, "the second page is a device's", m, trapTo(1, 0x6000))
		page(&m, 6, base+0x8000, aPage)
		wantStep(t, "two pages", m, on(4, result(9)))
		lay(&m, base+0x6ffe, 2, 0x4295)
		page(&m, 6, 0, 0)
		wantStep(t, "a short one at a page's end", m, on(2, result(5)))
		lay(&m, base+0x3000+8*5, 8, 0)
		wantStep(t, "the first page isn't there", m, trapTo(12, 0x5ffe))

		top := paged(mode)
		top.Hart.PC = all - 1
		page(&top, 511, base+0x6000, aPage)
		lay(&top, base+0x6ffe, 2, uint64(word(api.Addi, d, 0, 0, 9)))
		wantStep(t, "the second two bytes at 0, which isn't there", top, trapTo(12, 0))
		page(&top, 0, base+0x8000, aPage)
		lay(&top, base+0x8000, 2, uint64(word(api.Addi, d, 0, 0, 9)>>16))
		wantStep(t, "the second two bytes at 0", top, func(m *api.Machine) { m.Hart.X[d], m.Hart.PC = 9, 2 })
		lay(&top, base+0x6ffe, 2, 0x4295)
		wantStep(t, "the last short one", top, func(m *api.Machine) { m.Hart.X[d], m.Hart.PC = 5, 0 })
	}
}

// P15.1: loads, stores and atomic ones through tables: they are done at what was found, and traps tell the address.
func TestPagesOfData(t *testing.T) {
	for _, mode := range []int{0, 1} {
		at := func(w uint32, bits uint64, to uint64) api.Machine {
			m := paged(mode)
			page(&m, 5, base+0x6000, aPage)
			lay(&m, base+0x6000, 4, uint64(w))
			copy(m.Ram.Data[0x7100:], data)
			page(&m, 7, to, bits)
			m.Hart.X[s], m.Hart.X[u] = 0x7100, 0x4847464544434241
			return m
		}
		here := base + 0x7000
		lw, sw, lr := word(api.Lw, d, s, 0, 4), word(api.Sw, 0, s, u, 4), word(api.LrW, d, s, 0, 0)
		sc, swap := word(api.ScW, d, s, u, 0), word(api.SwapW, d, s, u, 0)
		wantStep(t, "Lw", at(lw, aPage, here), on(4, result(0xfffffffff8f7f6f5)))
		wantStep(t, "Lw, not there", at(lw, 0, here), trapTo(13, 0x7104))
		wantStep(t, "Lw, not to be read", at(lw, aPage&^6, here), trapTo(13, 0x7104))
		wantStep(t, "Lw, not to be written", at(lw, aPage&^0x84, here), on(4, result(0xfffffffff8f7f6f5)))
		wantStep(t, "Lw, behind memory's end", at(lw, aPage, base+0x10000), trapTo(5, 0x7104))
		wantStep(t, "Lw, of plic's", at(lw, aPage, 0xc000000), trapTo(5, 0x7104))
		wantStep(t, "Sw", at(sw, aPage, here), on(4, func(m *api.Machine) {
			copy(m.Ram.Data[0x7104:], "ABCD")
			m.Ram.Marks[0x71] = 1
			release(m)
		}))
		wantStep(t, "Sw, not there", at(sw, 0, here), trapTo(15, 0x7104))
		wantStep(t, "Sw, not to be written", at(sw, aPage&^4, here), trapTo(15, 0x7104))
		wantStep(t, "Sw, behind memory's end", at(sw, aPage, base+0x10000), trapTo(7, 0x7104))
		reserves := func(m *api.Machine) { m.Hart.Held, m.Hart.At = true, base+0x7100 }
		wantStep(t, "Lr", at(lr, aPage, here), on(4, both(result(0xfffffffff4f3f2f1), reserves)))
		wantStep(t, "Lr, not to be written", at(lr, aPage&^0x84, here), on(4, both(result(0xfffffffff4f3f2f1), reserves)))
		wantStep(t, "Lr, not to be read", at(lr, aPage&^6, here), trapTo(13, 0x7100))
		wantStep(t, "Lr of a device", at(lr, aPage, 0x10001000), trapTo(5, 0x7100))
		stores := on(4, both(release, func(m *api.Machine) {
			copy(m.Ram.Data[0x7100:], "ABCD")
			m.Ram.Marks[0x71] = 1
		}))
		wantStep(t, "Swap", at(swap, aPage, here), both(stores, result(0xfffffffff4f3f2f1)))
		wantStep(t, "Swap, not to be written", at(swap, aPage&^4, here), trapTo(15, 0x7100))
		wantStep(t, "Swap of a device", at(swap, aPage, 0x10001000), trapTo(7, 0x7100))
		m := at(sc, aPage, here)
		reserves(&m)
		wantStep(t, "Sc", m, both(stores, result(0)))
		m.Hart.At = 0x7100
		wantStep(t, "Sc, reserved by the program's address", m, on(4, both(release, result(1))))
		m = at(sc, aPage&^4, here)
		wantStep(t, "Sc without a reservation, not to be written", m, trapTo(15, 0x7100))
		m = at(swap, 0, here)
		m.Hart.X[s]++
		wantStep(t, "no multiple of 4, and no page", m, trapTo(6, 0x7101))
		m = at(lr, 0, here)
		m.Hart.X[s] += 2
		wantStep(t, "no multiple of 4, and no page", m, trapTo(4, 0x7102))
		m = at(word(api.Lbu, d, s, 0, -0x100), aPage, 0x10000000)
		wantStep(t, "a device through a page", m, on(4, both(result(0xf0), func(m *api.Machine) { m.Board.In = "bc" })))
		m = at(lw, aPage, here)
		m.Hart.X[s] = 1 << 38
		wantStep(t, "an address that may not be", m, trapTo(13, 1<<38+4))
	}
	m := paged(3)
	m.Hart.PC = base + 0x6000
	m.Hart.C.Mstatus |= 1<<17 | 1<<11
	page(&m, 7, base+0x7000, aPage)
	copy(m.Ram.Data[0x7100:], data)
	lay(&m, base+0x6000, 4, uint64(word(api.Lw, d, s, 0, 0)))
	m.Hart.X[s] = 0x7100
	wantStep(t, "a load of the mode ahead, while the program is mode Boss's", m, on(4, result(0xfffffffff4f3f2f1)))
}

// P15.1: each Op, in all modes, with numbers of all kinds.
func TestEveryWord(t *testing.T) {
	numbers := []uint64{0, 1, 2, 63, 0x7fffffff, 0x80000000, 0xffffffff, 1<<63 - 1, 1 << 63, all, base + 0x100, base + 0x2ff, 0x10000000, 0x2004000, 0xc000004}
	imms := []int{0, 1, -1, 4, 31, 63, 0x140, 0x300, 0x344, 0xc00, -2048, 2046, 0x12345000, -0x80000000}
	r := rand.New(rand.NewSource(15))
	for _, c := range codes() {
		for _, mode := range modes {
			for _, a := range numbers {
				for _, b := range []uint64{numbers[r.Intn(len(numbers))], numbers[r.Intn(len(numbers))], r.Uint64()} {
					imm := imms[r.Intn(len(imms))]
					m := ready(mode, c.word(d, s, u, imm))
					m.Hart.X[s], m.Hart.X[u] = a, b
					wantWords(t, fmt.Sprintf("Op %d in mode %d of %x and %x, number %x", c.op, mode, a, b, imm), m)
				}
			}
		}
	}
}

// P15.4: each short one does what its word does, but that the next place is two bytes on.
func TestEveryShort(t *testing.T) {
	for n := range 65536 {
		h := uint16(n)
		w, err := brief.Word(h)
		if err != api.OK {
			if n%4 != 3 && n%7 == 0 { // a part of them, since they all go one way
				wantStep(t, fmt.Sprintf("%04x", h), readyShort(n/4%2, h), trapTo(2, uint64(h)))
			}
			continue
		}
		wantShort(t, h, w, modes[n/4%3])
	}
}

func wantShort(t *testing.T, h uint16, w uint32, mode int) {
	t.Helper()
	m := ready(mode)
	m.Ram.Data, m.Ram.Marks = append(m.Ram.Data, m.Ram.Data...), append(m.Ram.Marks, 1, 2, 3)
	for n := range m.Hart.X[1:] {
		m.Hart.X[n+1] = base + 0x200 + 8*uint64(n)
	}
	m.Hart.X[8+h>>2%8] = 0
	short := twin(m)
	pc := m.Hart.PC
	lay(&m, pc, 4, uint64(w))
	lay(&short, pc, 2, uint64(h))
	was, beside := twin(short), uint64(short.Ram.Data[0x42])|uint64(short.Ram.Data[0x43])<<8
	Step(&m)
	Step(&short)
	in, _ := decode.Word(w)
	holds, branch := alu.Branch(in.Op, was.Hart.X[in.Rs1], was.Hart.X[in.Rs2])
	if m.Hart.C.Mcause == 77 && in.Op != api.Jal && in.Op != api.Jalr && !(branch && holds) {
		m.Hart.PC -= 2
	}
	if in.Op == api.Jalr && in.Rd != 0 {
		m.Hart.X[in.Rd] -= 2
	}
	lay(&m, pc, 4, uint64(h)|beside<<16)
	if s := unlike(short, m); s != "" {
		t.Errorf("%04x, of which the word is %08x: %s", h, w, s)
	}
	by := twin(was)
	stepBy(&by)
	wantMachine(t, fmt.Sprintf("%04x", h), short, by)
	wantPromises(t, fmt.Sprintf("%04x", h), was, short)
}

// P15.1, P15.4: short ones as written down by hand.
func TestKnownShorts(t *testing.T) {
	for _, mode := range modes {
		wantStep(t, "nothing", readyShort(mode, 0x0001), on(2, same))
		wantStep(t, "Addi of register 5, 5", readyShort(mode, 0x4295), on(2, result(5)))
		m := readyShort(mode, 0x9282) // Jalr of registers 1 and 5
		m.Hart.X[5] = 0x1235
		wantStep(t, "Jalr", m, func(m *api.Machine) { m.Hart.X[1], m.Hart.PC = base+0x42, 0x1234 })
		m = readyShort(mode, 0x9082) // Jalr of registers 1 and 1
		m.Hart.X[1] = 0x1236
		wantStep(t, "Jalr by its own register", m, func(m *api.Machine) { m.Hart.X[1], m.Hart.PC = base+0x42, 0x1236 })
		wantStep(t, "Jal back by 2", readyShort(mode, 0xbffd), func(m *api.Machine) { m.Hart.PC = base + 0x3e })
		wantStep(t, "Beq of a register that isn't 0", readyShort(mode, 0xc011), on(2, same))
		wantStep(t, "Bne of one that isn't 0", readyShort(mode, 0xe011), on(4, same))
		m = readyShort(mode, 0xc011)
		m.Hart.X[8] = 0
		wantStep(t, "Beq of one that is 0", m, on(4, same))
		m = readyShort(mode, 0xe00d)
		m.Hart.X[8] = 0
		wantStep(t, "Bne of one that is 0", m, on(2, same))
		m = readyShort(mode, 0xc04c) // Sw of register 11 at register 8 and 4
		m.Hart.X[8], m.Hart.X[11] = base+0xfc, 0x44434241
		wantStep(t, "Sw", m, on(2, func(m *api.Machine) {
			copy(m.Ram.Data[0x100:], "ABCD")
			m.Ram.Marks[1] = 9
			release(m)
		}))
		m = readyShort(mode, 0x404c) // Lw of register 11 from register 8 and 4
		m.Hart.X[8] = base + 0x2fd
		wantStep(t, "Lw behind memory's end", m, trapTo(5, base+0x301))
	}
}

// P15.1: a whole program: each byte of the serial line is sent back, whenever it comes.
func TestEcho(t *testing.T) {
	code := "\xb7\x02\x00\x10\x03\xc3\x52\x00\x13\x73\x13\x00\xe3\x0c\x03\xfe\x03\xc3\x02\x00\x23\x80\x62\x00\x6f\xf0\xdf\xfe"
	m := api.Machine{Hart: api.Hart{PC: base, Mode: 3}, Board: dev.New(), Ram: api.Ram{Data: make([]byte, 1024), Marks: make([]uint64, 4)}}
	copy(m.Ram.Data, code)
	text := ""
	for n := range 600 {
		if n%100 == 17 {
			m.Board.In += "ab"
		}
		m = wantWords(t, fmt.Sprintf("step %d", n), m)
	}
	for i, r := range m.Outs {
		text += r.Bytes
		if r.Num != uint64(i) || r.Dev != api.Serial {
			t.Errorf("record %d: %v", i, r)
		}
	}
	if text != strings.Repeat("ab", 6) || m.Next != 12 || m.Count != 600 || m.Board.In != "" {
		t.Errorf("sent back %q, Next %d, Count %d", text, m.Next, m.Count)
	}
}

// scene: machines by chance, and what they do one step behind the other.
type scene struct{ *rand.Rand }

// number: one that leads somewhere, or anywhere.
func (r scene) number() uint64 {
	list := []uint64{0, 1, all, 1 << 63, 0x80000000, 0x7fffffff, base + 0x100, base + 0x5000, base + 0x5ff8, base + 0x6000, base - 4, 0x10000000,
		0x10000005, 0x10001000, 0x10001010, 0x10001018, 0x10002010, 0x2004000, 0x200bff8, 0x2000000, 0xc000004, 0xc200004, 0x1000, 0x2000, 0x3ff8, 0x5ffe}
	switch r.Intn(4) {
	case 0:
		return r.Uint64()
	case 1:
		return uint64(r.Intn(0x6000)) + base*uint64(r.Intn(2))
	case 2:
		return list[r.Intn(len(list))] + uint64(r.Intn(9)) - 4
	}
	return list[r.Intn(len(list))]
}

// word: an instruction by chance; a short one, or none, now and then.
func (r scene) word() uint32 {
	list := codes()
	c := list[r.Intn(len(list))]
	some := func() uint32 { return uint32(r.Intn(32)) }
	imm := []int{0, 4, r.Intn(4096) - 2048, r.Intn(1<<32) - 1<<31, 0x100, 0x300, 0x304, 0x344, 0x180, 0x144}[r.Intn(10)]
	switch r.Intn(12) {
	case 0:
		return r.Uint32()
	case 1:
		return r.Uint32()&^3 | uint32(r.Intn(3))
	}
	return c.word(some(), some(), some(), imm)
}

// machine: of six pages, with tables in the first three, the mode and the registers by chance; right.
func (r scene) machine() api.Machine {
	m := ready(modes[r.Intn(3)])
	m.Ram = api.Ram{Data: make([]byte, 0x6000), Marks: make([]uint64, 0x60), Epoch: 5}
	for n := range uint64(512) {
		to := 0x80000 + uint64(r.Intn(7))
		if r.Intn(8) == 0 {
			to = []uint64{0x10000, 0x10001, 0x2000, 0x2004, 0xc000}[r.Intn(5)]
		}
		bits := uint64(aPage)
		if r.Intn(4) == 0 {
			bits = uint64(r.Intn(256))
		}
		lay(&m, base+0x2000+8*n, 8, to<<10|bits|bitU*uint64(r.Intn(2)))
	}
	for _, n := range []uint64{0, 511} {
		lay(&m, base+8*n, 8, 0x80001<<10|1)
		lay(&m, base+0x1000+8*n, 8, 0x80002<<10|1)
	}
	lay(&m, base+16, 8, 0x80000<<10|aPage|bitU*uint64(r.Intn(2))) // the addresses of memory, as they are
	copy(m.Ram.Data[0x3000:], pattern(0x3000, r.Int63()))
	c := &m.Hart.C
	c.Satp = uint64(r.Intn(2))<<63 | 0x80000
	c.Mstatus |= uint64(r.Intn(8)) << 17
	c.Mie, c.Mideleg, c.Medeleg = r.Uint64()&0xaaa&r.Uint64()&r.Uint64(), r.Uint64()&0x222, r.Uint64()&0xb3ff
	c.Mtvec, c.Stvec = base+0x4000+uint64(r.Intn(2)), base+0x5000+uint64(r.Intn(2))
	for n := range m.Hart.X[1:] {
		m.Hart.X[n+1] = r.number()
	}
	return m
}

// poke: an instruction by chance where the program is, if that is in memory; and now and then other things.
func (r scene) poke(m *api.Machine) {
	if r.Intn(4) == 0 {
		m.Hart.PC = r.number() &^ 1
	}
	if r.Intn(3) == 0 {
		m.Hart.X[1+r.Intn(31)] = r.number()
	}
	if r.Intn(40) == 0 {
		m.Hart.Mode = modes[r.Intn(3)]
	}
	if r.Intn(8) == 0 {
		m.Hart.Held, m.Hart.At = true, m.Hart.X[r.Intn(32)]
	}
	at, cause := walk.Find(m.Hart.C, m.Hart.Mode, m.Ram, m.Hart.PC, 0)
	if size := 1 + r.Intn(2); cause == -1 && thereBy(m.Ram, at, 4*size) {
		lay(m, at, 4, uint64(r.word()))
	}
}

// P15.1 to P15.3: steps by chance, one behind the other, of right machines.
func TestChance(t *testing.T) {
	r := scene{rand.New(rand.NewSource(1))}
	for n := range 120 {
		m := r.machine()
		if !rightMachine(m) {
			t.Fatal("a machine of the tests isn't right")
		}
		for i := range 120 {
			r.poke(&m)
			before := twin(m)
			m = wantWords(t, fmt.Sprintf("machine %d, step %d, at %x in mode %d", n, i, m.Hart.PC, m.Hart.Mode), m)
			if t.Failed() {
				in, ok := instBy(before)
				t.Fatal(in, ok)
			}
			if m.Count%16 == 0 {
				m.Board.In, m.Board.Frames, m.Outs = "some bytes", []string{"a frame"}, nil
			}
		}
	}
}

// wrong: a machine that isn't right in many ways.
func (r scene) wrong() api.Machine {
	m := r.machine()
	h := &m.Hart
	h.Mode = []int{-1, 2, 4, 5, -8, 55, 56, 63, 64, 1 << 32, math.MaxInt, math.MinInt, math.MaxInt - 7, 0, 1, 3}[r.Intn(16)]
	h.X[0] = r.number()
	c := []*uint64{&h.C.Mstatus, &h.C.Medeleg, &h.C.Mideleg, &h.C.Mie, &h.C.Mip, &h.C.Mtvec, &h.C.Mepc, &h.C.Stvec, &h.C.Sepc, &h.C.Satp}
	for range r.Intn(3) {
		*c[r.Intn(len(c))] = r.Uint64()
	}
	h.Held, h.At = r.Intn(2) == 0, r.number()
	switch r.Intn(4) {
	case 0:
		size := []int{0, 1, 2, 3, 300, 0x4005}[r.Intn(6)]
		m.Ram.Data, m.Ram.Marks = m.Ram.Data[:size], m.Ram.Marks[:r.Intn(4)]
	case 1:
		m.Ram.Marks[r.Intn(8)] = all
	}
	if r.Intn(2) == 0 {
		n := uint32(r.Uint64())
		m.Board.Plic = api.Plic{Prio: [4]uint32{n, n, 2, n}, Enable: [2]uint32{n, ^n}, Level: [2]uint32{0, n}, Claimed: ^n}
		m.Board.In, m.Board.Sectors = strings.Repeat("x", r.Intn(2000)), m.Board.Sectors[:r.Intn(1024)]
	}
	return m
}

// P15.1: machines that aren't right.
func TestWrong(t *testing.T) {
	r := scene{rand.New(rand.NewSource(2))}
	for n := range 400 {
		m := r.wrong()
		for i := range 16 {
			r.poke(&m)
			m.Hart.PC += uint64(r.Intn(8) / 7)
			m = wantWords(t, fmt.Sprintf("machine %d, step %d, at %x in mode %d", n, i, m.Hart.PC, m.Hart.Mode), m)
			if t.Failed() {
				return
			}
			if r.Intn(4) == 0 {
				m.Hart.Mode = r.wrong().Hart.Mode
			}
		}
	}
	wantStep(t, "nothing but noughts", api.Machine{}, func(m *api.Machine) { m.Hart.C.Mcause, m.Hart.Mode = 1, 3 })
}

// P15.1: of machines that aren't right, as written down by hand.
func TestKnownWrong(t *testing.T) {
	ecall := word(api.Ecall, 0, 0, 0, 0)
	for mode, cause := range map[int]uint64{2: 10, -1: 7, -8: 0, 4: 12, 55: 63} {
		wantStep(t, fmt.Sprintf("Ecall in mode %d", mode), ready(mode, ecall), func(m *api.Machine) {
			m.Hart.Mode &= 3
			toUpper(m, cause, 0)
		})
	}
	for _, mode := range []int{-9, 56, 57, math.MaxInt, math.MinInt} {
		wantStep(t, fmt.Sprintf("Ecall in mode %d, of which there is no trap", mode), ready(mode, ecall), same)
	}
	wantStep(t, "Sfence in mode -1, which isn't User", ready(-1, word(api.Sfence, 0, s, u, 0)), on(4, same))
	wantStep(t, "Mret in mode 4", ready(4, word(api.Mret, 0, 0, 0, 0)), func(m *api.Machine) {
		m.Hart.Mode = 0
		toUpper(m, 2, 0x30200073)
	})
	m := ready(3, word(api.Add, d, 0, s, 0))
	m.Hart.X[0], m.Hart.X[s] = 40, 2
	wantStep(t, "register 0 as it stands", m, on(4, result(42)))
	m = ready(3, word(api.Addi, 0, s, 0, 0))
	m.Hart.X[0] = 40
	wantStep(t, "nothing goes into it", m, on(4, same))
	m = ready(3, word(api.Csrrs, d, 0, 0, 0x340))
	m.Hart.X[0] = 40
	wantStep(t, "Csrrs of register 0", m, on(4, result(3)))
	m = ready(3, word(api.ScW, d, s, u, 0))
	m.Hart.X[s], m.Hart.Held, m.Hart.At = base+0x100, false, base+0x100
	wantStep(t, "a place that isn't Held", m, on(4, both(release, result(1))))
	m = ready(3, word(api.LrD, d, s, 0, 0))
	m.Ram.Data, m.Hart.X[s] = m.Ram.Data[:0x104], base+0x100
	wantStep(t, "eight bytes of which four are there", m, trapTo(5, base+0x100))
	lay(&m, m.Hart.PC, 4, uint64(word(api.SwapD, d, s, u, 0)))
	wantStep(t, "eight bytes of which four are there", m, trapTo(7, base+0x100))
}

// P15.1: no machine at all.
func TestNoMachine(t *testing.T) {
	Step(nil)
}

// P15.1: Right.
func TestRight(t *testing.T) {
	want := func(what string, h api.Hart, right bool) {
		t.Helper()
		before := h
		if Right(h) != right || rightBy(h) != right {
			t.Errorf("%s: %v, want %v", what, Right(h), right)
		}
		if h != before {
			t.Errorf("%s: the processor changed", what)
		}
	}
	want("noughts", api.Hart{}, true)
	for _, mode := range modes {
		want("ready", ready(mode).Hart, true)
	}
	for _, x := range []struct {
		what   string
		right  bool
		change func(h *api.Hart)
	}{
		{"register 0 is 1", false, func(h *api.Hart) { h.X[0] = 1 }},
		{"register 0 is far from 0", false, func(h *api.Hart) { h.X[0] = 1 << 63 }},
		{"registers may be anything", true, func(h *api.Hart) { h.X[1], h.X[31] = all, all }},
		{"an odd PC", false, func(h *api.Hart) { h.PC = 1 }},
		{"the greatest PC", false, func(h *api.Hart) { h.PC = all }},
		{"the greatest even PC", true, func(h *api.Hart) { h.PC = all - 1 }},
		{"a PC by two", true, func(h *api.Hart) { h.PC = base + 2 }},
		{"no such mode", false, func(h *api.Hart) { h.Mode = 2 }},
		{"above all modes", false, func(h *api.Hart) { h.Mode = 4 }},
		{"below all modes", false, func(h *api.Hart) { h.Mode = -1 }},
		{"far above all modes", false, func(h *api.Hart) { h.Mode = math.MaxInt }},
		{"far below all modes", false, func(h *api.Hart) { h.Mode = math.MinInt }},
		{"a mode by its low bits alone", false, func(h *api.Hart) { h.Mode = 1<<32 + 3 }},
		{"Mstatus", false, func(h *api.Hart) { h.C.Mstatus = 1 }},
		{"MPP 2", false, func(h *api.Hart) { h.C.Mstatus = 2 << 11 }},
		{"Mepc", false, func(h *api.Hart) { h.C.Mepc = 1 }},
		{"Satp", false, func(h *api.Hart) { h.C.Satp = 1 << 60 }},
		{"Mtval may be anything", true, func(h *api.Hart) { h.C.Mtval = all }},
		{"a place that isn't Held", false, func(h *api.Hart) { h.Held = false }},
		{"no place that is Held", true, func(h *api.Hart) { h.At = 0 }},
		{"an odd place that is Held", true, func(h *api.Hart) { h.At = all }},
		{"nothing Held", true, func(h *api.Hart) { h.Held, h.At = false, 0 }},
		{"the greatest place that isn't Held", false, func(h *api.Hart) { h.Held, h.At = false, all }},
	} {
		h := ready(1).Hart
		x.change(&h)
		want(x.what, h, x.right)
	}
	r := scene{rand.New(rand.NewSource(3))}
	for n := range 100 {
		h := r.wrong().Hart
		want(fmt.Sprintf("processor %d", n), h, rightBy(h))
	}
}

// P1, DOC.md's rule 3: what else shares a list with the machine isn't touched, its spare room neither, but for the bytes and
// the marks of memory that is pointed at.
func TestSpareRoom(t *testing.T) {
	m := ready(3, word(api.Sb, 0, s, u, 0))
	m.Hart.X[s] = 0x10000000
	outs := make([]api.Record, 1, 4)
	frames := append(make([]string, 0, 4), "one", "two")
	m.Outs, m.Board.Frames = outs, frames
	data, marks := append(slices.Clone(m.Ram.Data), 1, 2, 3)[:768], append(slices.Clone(m.Ram.Marks), 5)[:3]
	m.Ram.Data, m.Ram.Marks = data, marks
	Step(&m)
	if len(m.Outs) != 2 || outs[:2][1] != (api.Record{}) || outs[0] != (api.Record{}) {
		t.Errorf("records: %v, spare room %v", m.Outs, outs[:2])
	}
	lay(&m, m.Hart.PC, 4, uint64(word(api.Sd, 0, s, u, 0)))
	m.Hart.X[s], m.Hart.X[u] = 0x10002010, 1
	Step(&m)
	if !slices.Equal(frames, []string{"one", "two"}) || !slices.Equal(m.Board.Frames, frames[1:]) {
		t.Errorf("frames: %v, behind a step %v", frames, m.Board.Frames)
	}
	if !slices.Equal(data[:771][768:], []byte{1, 2, 3}) || marks[:4][3] != 5 {
		t.Error("memory's spare room is written")
	}
}

// P1, DOC.md's rule 4: nothing is kept from step to step: of the same machine a step makes the same.
func TestAsksNothingElse(t *testing.T) {
	r := scene{rand.New(rand.NewSource(4))}
	for n := range 100 {
		first, other := r.machine(), r.wrong()
		r.poke(&first)
		again := twin(first)
		Step(&first)
		Step(&other)
		Step(&again)
		wantMachine(t, fmt.Sprintf("machine %d", n), again, first)
	}
}
