package hart

import (
	"fmt"
	"math/rand"
	"reflect"
	"slices"
	"testing"

	"tandem/alu"
	"tandem/api"
	"tandem/brief"
	"tandem/bus"
	"tandem/csr"
	"tandem/decode"
	"tandem/trap"
	"tandem/walk"
)

const (
	all  = uint64(1<<64 - 1)
	base = uint64(0x80000000)
)

// A code is an Op by the fields of its words; the form tells what else stands in them.
type code struct {
	op          int
	f7, f3, low uint32
	form        byte
}

// codes: all Ops of api. The forms: R has three registers, L two, I S B U J and the shifts a number, C a control
// register's, F two sources, 0 nothing.
func codes() []code {
	return []code{
		{api.Lui, 0, 0, 0x37, 'U'}, {api.Auipc, 0, 0, 0x17, 'U'}, {api.Jal, 0, 0, 0x6f, 'J'}, {api.Jalr, 0, 0, 0x67, 'I'},
		{api.Beq, 0, 0, 0x63, 'B'}, {api.Bne, 0, 1, 0x63, 'B'}, {api.Blt, 0, 4, 0x63, 'B'}, {api.Bge, 0, 5, 0x63, 'B'},
		{api.Bltu, 0, 6, 0x63, 'B'}, {api.Bgeu, 0, 7, 0x63, 'B'},
		{api.Lb, 0, 0, 0x03, 'I'}, {api.Lh, 0, 1, 0x03, 'I'}, {api.Lw, 0, 2, 0x03, 'I'}, {api.Ld, 0, 3, 0x03, 'I'},
		{api.Lbu, 0, 4, 0x03, 'I'}, {api.Lhu, 0, 5, 0x03, 'I'}, {api.Lwu, 0, 6, 0x03, 'I'},
		{api.Sb, 0, 0, 0x23, 'S'}, {api.Sh, 0, 1, 0x23, 'S'}, {api.Sw, 0, 2, 0x23, 'S'}, {api.Sd, 0, 3, 0x23, 'S'},
		{api.Addi, 0, 0, 0x13, 'I'}, {api.Slti, 0, 2, 0x13, 'I'}, {api.Sltiu, 0, 3, 0x13, 'I'}, {api.Xori, 0, 4, 0x13, 'I'},
		{api.Ori, 0, 6, 0x13, 'I'}, {api.Andi, 0, 7, 0x13, 'I'},
		{api.Slli, 0, 1, 0x13, '6'}, {api.Srli, 0, 5, 0x13, '6'}, {api.Srai, 32, 5, 0x13, '6'},
		{api.Add, 0, 0, 0x33, 'R'}, {api.Sub, 32, 0, 0x33, 'R'}, {api.Sll, 0, 1, 0x33, 'R'}, {api.Slt, 0, 2, 0x33, 'R'},
		{api.Sltu, 0, 3, 0x33, 'R'}, {api.Xor, 0, 4, 0x33, 'R'}, {api.Srl, 0, 5, 0x33, 'R'}, {api.Sra, 32, 5, 0x33, 'R'},
		{api.Or, 0, 6, 0x33, 'R'}, {api.And, 0, 7, 0x33, 'R'},
		{api.Addiw, 0, 0, 0x1b, 'I'}, {api.Slliw, 0, 1, 0x1b, '5'}, {api.Srliw, 0, 5, 0x1b, '5'}, {api.Sraiw, 32, 5, 0x1b, '5'},
		{api.Addw, 0, 0, 0x3b, 'R'}, {api.Subw, 32, 0, 0x3b, 'R'}, {api.Sllw, 0, 1, 0x3b, 'R'}, {api.Srlw, 0, 5, 0x3b, 'R'},
		{api.Sraw, 32, 5, 0x3b, 'R'},
		{api.Fence, 0, 0, 0x0f, '0'}, {api.FenceI, 0, 1, 0x0f, '0'}, {api.Ecall, 0, 0, 0x73, '0'}, {api.Ebreak, 0, 0, 0x100073, '0'},
		{api.Csrrw, 0, 1, 0x73, 'C'}, {api.Csrrs, 0, 2, 0x73, 'C'}, {api.Csrrc, 0, 3, 0x73, 'C'},
		{api.Csrrwi, 0, 5, 0x73, 'C'}, {api.Csrrsi, 0, 6, 0x73, 'C'}, {api.Csrrci, 0, 7, 0x73, 'C'},
		{api.Mul, 1, 0, 0x33, 'R'}, {api.Mulh, 1, 1, 0x33, 'R'}, {api.Mulhsu, 1, 2, 0x33, 'R'}, {api.Mulhu, 1, 3, 0x33, 'R'},
		{api.Div, 1, 4, 0x33, 'R'}, {api.Divu, 1, 5, 0x33, 'R'}, {api.Rem, 1, 6, 0x33, 'R'}, {api.Remu, 1, 7, 0x33, 'R'},
		{api.Mulw, 1, 0, 0x3b, 'R'}, {api.Divw, 1, 4, 0x3b, 'R'}, {api.Divuw, 1, 5, 0x3b, 'R'}, {api.Remw, 1, 6, 0x3b, 'R'},
		{api.Remuw, 1, 7, 0x3b, 'R'},
		{api.LrW, 2 * 4, 2, 0x2f, 'L'}, {api.ScW, 3 * 4, 2, 0x2f, 'R'}, {api.SwapW, 1 * 4, 2, 0x2f, 'R'}, {api.AddAW, 0, 2, 0x2f, 'R'},
		{api.XorAW, 4 * 4, 2, 0x2f, 'R'}, {api.AndAW, 12 * 4, 2, 0x2f, 'R'}, {api.OrAW, 8 * 4, 2, 0x2f, 'R'}, {api.MinAW, 16 * 4, 2, 0x2f, 'R'},
		{api.MaxAW, 20 * 4, 2, 0x2f, 'R'}, {api.MinuAW, 24 * 4, 2, 0x2f, 'R'}, {api.MaxuAW, 28 * 4, 2, 0x2f, 'R'},
		{api.LrD, 2 * 4, 3, 0x2f, 'L'}, {api.ScD, 3 * 4, 3, 0x2f, 'R'}, {api.SwapD, 1 * 4, 3, 0x2f, 'R'}, {api.AddAD, 0, 3, 0x2f, 'R'},
		{api.XorAD, 4 * 4, 3, 0x2f, 'R'}, {api.AndAD, 12 * 4, 3, 0x2f, 'R'}, {api.OrAD, 8 * 4, 3, 0x2f, 'R'}, {api.MinAD, 16 * 4, 3, 0x2f, 'R'},
		{api.MaxAD, 20 * 4, 3, 0x2f, 'R'}, {api.MinuAD, 24 * 4, 3, 0x2f, 'R'}, {api.MaxuAD, 28 * 4, 3, 0x2f, 'R'},
		{api.Mret, 0, 0, 0x30200073, '0'}, {api.Sret, 0, 0, 0x10200073, '0'}, {api.Wfi, 0, 0, 0x10500073, '0'}, {api.Sfence, 9, 0, 0x73, 'F'},
	}
}

// word: that of the code with these registers and this number; what it hasn't is left out.
func (c code) word(rd, rs1, rs2 uint32, imm int) uint32 {
	n := uint32(imm)
	w := c.f7<<25 | c.f3<<12 | c.low
	switch c.form {
	case 'R':
		return w | rs2<<20 | rs1<<15 | rd<<7
	case 'L':
		return w | rs1<<15 | rd<<7
	case 'F':
		return w | rs2<<20 | rs1<<15
	case 'I', 'C':
		return w | n&0xfff<<20 | rs1<<15 | rd<<7
	case '6':
		return w | n&63<<20 | rs1<<15 | rd<<7
	case '5':
		return w | n&31<<20 | rs1<<15 | rd<<7
	case 'S':
		return w | n>>5&0x7f<<25 | rs2<<20 | rs1<<15 | n&31<<7
	case 'B':
		return w | n>>12&1<<31 | n>>5&63<<25 | rs2<<20 | rs1<<15 | n>>1&15<<8 | n>>11&1<<7
	case 'U':
		return w | n&0xfffff000 | rd<<7
	case 'J':
		return w | n>>20&1<<31 | n>>1&0x3ff<<21 | n>>11&1<<20 | n>>12&0xff<<12 | rd<<7
	}
	return w
}

// word: that of the Op.
func word(op int, rd, rs1, rs2 uint32, imm int) uint32 {
	for _, c := range codes() {
		if c.op == op {
			return c.word(rd, rs1, rs2, imm)
		}
	}
	panic("no such Op")
}

// ended: a step is over ahead of its end.
type ended struct{}

// stepBy: Step, as the chapter's words tell it.
func stepBy(m *api.Machine) {
	defer func() {
		if r := recover(); r != nil && r != (ended{}) {
			panic(r)
		}
		m.Count++
	}()
	if n := trap.Pending(m.Hart, bus.Lines(*m)); n != -1 {
		m.Hart = trap.Take(m.Hart, n, true, 0)
		return
	}
	w, bytes := wordBy(m)
	in, err := decode.Word(w)
	if err == api.ErrCode {
		trapBy(m, 2, uint64(w))
	}
	m.Hart.PC = doBy(m, in, uint64(w), m.Hart.PC+bytes)
}

// trapBy: a trap, with which the step ends.
func trapBy(m *api.Machine, cause int, value uint64) {
	m.Hart = trap.Take(m.Hart, cause, false, value)
	panic(ended{})
}

// wordBy: the instruction's word and bytes.
func wordBy(m *api.Machine) (uint32, uint64) {
	first := halfBy(m, m.Hart.PC)
	if !brief.Short(first) {
		return uint32(first) + uint32(halfBy(m, m.Hart.PC+2))*65536, 4
	}
	w, err := brief.Word(first)
	if err == api.ErrCode {
		trapBy(m, 2, uint64(first))
	}
	return w, 2
}

// halfBy: two bytes of the program.
func halfBy(m *api.Machine, at uint64) uint16 {
	place := findBy(m, at, 0)
	if !thereBy(m.Ram, place, 2) {
		trapBy(m, 1, at)
	}
	return uint16(m.Ram.Data[place-base]) + 256*uint16(m.Ram.Data[place+1-base])
}

func findBy(m *api.Machine, at uint64, kind int) uint64 {
	place, cause := walk.Find(m.Hart.C, m.Hart.Mode, m.Ram, at, kind)
	if cause != -1 {
		trapBy(m, cause, at)
	}
	return place
}

// thereBy: are so many bytes of memory there? Address by address: a sum that goes round is below the base.
func thereBy(m api.Ram, at uint64, size int) bool {
	for i := range uint64(size) {
		if at+i < base || at+i-base >= uint64(len(m.Data)) {
			return false
		}
	}
	return true
}

// bytesBy: how many bytes the loads, the stores and the atomic ones have, by api's order.
func bytesBy(op int) int {
	switch {
	case op >= api.Lb && op <= api.Sd:
		return []int{1, 2, 4, 8, 1, 2, 4, 1, 2, 4, 8}[op-api.Lb]
	case op >= api.LrW && op <= api.MaxuAW:
		return 4
	case op >= api.LrD && op <= api.MaxuAD:
		return 8
	}
	return 0
}

// signBy: the low bytes of n with their sign.
func signBy(n uint64, bytes int) uint64 {
	if bytes < 8 && n>>(8*bytes-1)%2 == 1 {
		n -= 1 << (8 * bytes)
	}
	return n
}

// doBy: the instruction; the next place.
func doBy(m *api.Machine, in api.Inst, w, next uint64) uint64 {
	h := &m.Hart
	a, b, imm, pc := h.X[in.Rs1], h.X[in.Rs2], uint64(in.Imm), h.PC
	result := func(n uint64) {
		if in.Rd > 0 {
			h.X[in.Rd] = n
		}
	}
	switch op := in.Op; {
	case op == api.Lui:
		result(imm)
	case op == api.Auipc:
		result(pc + imm)
	case op == api.Jal:
		result(next)
		return pc + imm
	case op == api.Jalr:
		result(next)
		return (a + imm) / 2 * 2
	case op >= api.Beq && op <= api.Bgeu:
		if holds, _ := alu.Branch(op, a, b); holds {
			return pc + imm
		}
	case op >= api.Lb && op <= api.Lwu:
		result(loadBy(m, op, a+imm))
	case op >= api.Sb && op <= api.Sd:
		if !bus.Store(m, findBy(m, a+imm, 2), bytesBy(op), b) {
			trapBy(m, 7, a+imm)
		}
		h.Held, h.At = false, 0
	case op >= api.Csrrw && op <= api.Csrrci:
		result(controlBy(m, in, a, w))
	case bytesBy(op) != 0:
		result(atomicBy(m, in, a, b))
	case op >= api.Addi && op <= api.Srai, op >= api.Addiw && op <= api.Sraiw:
		n, _ := alu.Do(op, a, imm)
		result(n)
	default:
		return otherBy(m, in, w, next)
	}
	return next
}

// otherBy: the instructions without a number and without an address.
func otherBy(m *api.Machine, in api.Inst, w, next uint64) uint64 {
	h := &m.Hart
	switch in.Op {
	case api.Fence, api.FenceI, api.Wfi:
	case api.Ecall:
		trapBy(m, 8+h.Mode, 0)
	case api.Ebreak:
		trapBy(m, 3, h.PC)
	case api.Sfence:
		if h.Mode == 0 {
			trapBy(m, 2, w)
		}
	case api.Mret, api.Sret:
		behind, ok := map[int]func(api.Hart) (api.Hart, bool){api.Mret: trap.Mret, api.Sret: trap.Sret}[in.Op](*h)
		if !ok {
			trapBy(m, 2, w)
		}
		*h = behind
		panic(ended{})
	default:
		n, ok := alu.Do(in.Op, h.X[in.Rs1], h.X[in.Rs2])
		if !ok {
			panic("an Op without words")
		}
		if in.Rd > 0 {
			h.X[in.Rd] = n
		}
	}
	return next
}

func loadBy(m *api.Machine, op int, at uint64) uint64 {
	n, ok := bus.Load(m, findBy(m, at, 1), bytesBy(op))
	if !ok {
		trapBy(m, 5, at)
	}
	if op <= api.Ld {
		return signBy(n, bytesBy(op))
	}
	return n
}

func controlBy(m *api.Machine, in api.Inst, v, w uint64) uint64 {
	h, kind := &m.Hart, in.Op-api.Csrrw
	if kind >= 3 {
		v, kind = uint64(in.Rs1), kind-3
	}
	n, ok := csr.Read(h.C, h.Mode, int(in.Imm), bus.Lines(*m), m.Count)
	if !ok {
		trapBy(m, 2, w)
	}
	if kind == 0 || in.Rs1 != 0 {
		c, ok := csr.Write(h.C, h.Mode, int(in.Imm), []uint64{v, n | v, n - n&v}[kind])
		if !ok {
			trapBy(m, 2, w)
		}
		h.C = c
	}
	return n
}

func atomicBy(m *api.Machine, in api.Inst, a, b uint64) uint64 {
	h, size := &m.Hart, bytesBy(in.Op)
	lr, sc := in.Op == api.LrW || in.Op == api.LrD, in.Op == api.ScW || in.Op == api.ScD
	less, kind := 0, 2
	if lr {
		less, kind = 2, 1
	}
	if a%uint64(size) != 0 {
		trapBy(m, 6-less, a)
	}
	place := findBy(m, a, kind)
	if !thereBy(m.Ram, place, size) {
		trapBy(m, 7-less, a)
	}
	n, _ := bus.Load(m, place, size)
	n = signBy(n, size)
	if lr {
		h.Held, h.At = true, place
		return n
	}
	held := h.Held && h.At == place
	h.Held, h.At = false, 0
	if sc && !held {
		return 1
	}
	if sc {
		bus.Store(m, place, size, b)
		return 0
	}
	v, _ := alu.Amo(in.Op, n, b)
	bus.Store(m, place, size, v)
	return n
}

// instBy: the instruction that the next step does; false: an interrupt or a trap comes ahead of it.
func instBy(was api.Machine) (in api.Inst, ok bool) {
	defer func() { recover() }()
	m := twin(was)
	if trap.Pending(m.Hart, bus.Lines(m)) != -1 {
		return
	}
	w, _ := wordBy(&m)
	told, err := decode.Word(w)
	return told, err == api.OK
}

// rightBy: Right, likewise.
func rightBy(h api.Hart) bool {
	return h.X[0] == 0 && h.PC%2 == 0 && slices.Contains([]int{0, 1, 3}, h.Mode) && csr.Right(h.C) && (h.Held || h.At == 0)
}

// twin: the same machine, made apart from the program.
func twin(m api.Machine) api.Machine {
	m.Board.Frames, m.Outs = slices.Clone(m.Board.Frames), slices.Clone(m.Outs)
	m.Ram.Data, m.Ram.Marks = slices.Clone(m.Ram.Data), slices.Clone(m.Ram.Marks)
	return m
}

// unlike: what differs; a list that holds nothing may be nil or empty.
func unlike(got, want api.Machine) (s string) {
	tell := func(what string, a, b any) {
		s += fmt.Sprintf("\n\t%s: %.400v, want %.400v", what, fmt.Sprintf("%+x", a), fmt.Sprintf("%+x", b))
	}
	for n, v := range got.Hart.X {
		if v != want.Hart.X[n] {
			tell(fmt.Sprintf("register %d", n), v, want.Hart.X[n])
		}
	}
	got.Hart.X = want.Hart.X
	if got.Hart != want.Hart {
		a, b := got.Hart, want.Hart
		tell("PC, mode and reservation", []any{a.PC, a.Mode, a.Held, a.At}, []any{b.PC, b.Mode, b.Held, b.At})
		tell("control registers", a.C, b.C)
	}
	if !slices.Equal(got.Board.Frames, want.Board.Frames) {
		tell("Frames", got.Board.Frames, want.Board.Frames)
	}
	got.Board.Frames, want.Board.Frames = nil, nil
	if !reflect.DeepEqual(got.Board, want.Board) {
		got.Board.Sectors, want.Board.Sectors = fmt.Sprint(got.Board.Sectors == want.Board.Sectors), "true"
		tell("Board", got.Board, want.Board)
	}
	if !slices.Equal(got.Ram.Data, want.Ram.Data) {
		for i := range min(len(got.Ram.Data), len(want.Ram.Data)) {
			if a, b := got.Ram.Data[i], want.Ram.Data[i]; a != b {
				tell(fmt.Sprintf("byte %x", i), a, b)
			}
		}
		tell("bytes", len(got.Ram.Data), len(want.Ram.Data))
	}
	if !slices.Equal(got.Ram.Marks, want.Ram.Marks) || got.Ram.Epoch != want.Ram.Epoch {
		tell("Epoch and marks", append(slices.Clone(got.Ram.Marks), got.Ram.Epoch), append(slices.Clone(want.Ram.Marks), want.Ram.Epoch))
	}
	if got.Count != want.Count || got.Next != want.Next {
		tell("Count and Next", []uint64{got.Count, got.Next}, []uint64{want.Count, want.Next})
	}
	if !slices.Equal(got.Outs, want.Outs) {
		tell("Outs", got.Outs, want.Outs)
	}
	return s
}

func wantMachine(t *testing.T, what string, got, want api.Machine) {
	t.Helper()
	if s := unlike(got, want); s != "" {
		t.Errorf("%s:%s", what, s)
	}
}

// wantStep: a step changes the machine so, and adds 1 to Count.
func wantStep(t *testing.T, what string, m api.Machine, change func(m *api.Machine)) {
	t.Helper()
	want, got, by := twin(m), twin(m), twin(m)
	change(&want)
	want.Count++
	Step(&got)
	wantMachine(t, what, got, want)
	stepBy(&by)
	wantMachine(t, what+" (by the words)", by, want)
}

// wantWords: a step does what the chapter's words tell, and keeps the promises.
func wantWords(t *testing.T, what string, m api.Machine) api.Machine {
	t.Helper()
	got, want := twin(m), twin(m)
	Step(&got)
	stepBy(&want)
	wantMachine(t, what, got, want)
	wantPromises(t, what, m, got)
	return got
}

// pattern: so many bytes by chance, the same ones each time.
func pattern(n int, seed int64) string {
	b := make([]byte, n)
	rand.New(rand.NewSource(seed)).Read(b)
	return string(b)
}

// lay: the number's low bytes into memory, at an address that is there.
func lay(m *api.Machine, at uint64, size int, n uint64) {
	for i := range size {
		m.Ram.Data[int(at-base)+i] = byte(n >> (8 * i))
	}
}

// ready: a right machine in the mode, with these words as its program, of which no field is nothing; no interrupt is on.
func ready(mode int, words ...uint32) api.Machine {
	m := api.Machine{
		Hart: api.Hart{PC: base + 0x40, Mode: mode, Held: true, At: base + 0x2f8, C: api.Csr{
			Mstatus: 0x28, Mtvec: base + 0x281, Mscratch: 3, Mepc: 4, Mcause: 77, Mtval: 6,
			Stvec: base + 0x181, Sscratch: 8, Sepc: 10, Scause: 78, Stval: 12, Satp: 5,
		}},
		Board: api.Board{
			Msip: true, Cmp: 0x1122334455667788, In: "\xf0bc", Ier: true,
			Sectors: pattern(1024, 12), Sector: 3, Addr: base + 0x80, Done: true, Bad: true,
			Frames: []string{"first", "second one"}, NicAddr: base + 0xc0, NicLen: 5,
			Plic: api.Plic{Prio: [4]uint32{0, 1, 2, 7}, Enable: [2]uint32{14, 2}, Level: [2]uint32{1, 2}, Claimed: 4},
		},
		Ram:   api.Ram{Data: []byte(pattern(768, 5)), Marks: []uint64{1, 2, 3}, Epoch: 9},
		Count: 1000, Next: 7, Outs: []api.Record{{Num: 6, Dev: api.Serial, Bytes: "6"}},
	}
	for n := range m.Hart.X {
		m.Hart.X[n] = 0x0101010101010101 * uint64(n)
	}
	for i, w := range words {
		lay(&m, m.Hart.PC+4*uint64(i), 4, uint64(w))
	}
	return m
}

// readyShort: likewise, with a short instruction.
func readyShort(mode int, h uint16) api.Machine {
	m := ready(mode)
	lay(&m, m.Hart.PC, 2, uint64(h))
	return m
}

// toUpper: what a trap or an interrupt leaves that the upper mode takes.
func toUpper(m *api.Machine, cause, value uint64) {
	h := &m.Hart
	h.C.Mepc, h.C.Mcause, h.C.Mtval = h.PC, cause, value
	on := h.C.Mstatus >> 3 & 1
	h.C.Mstatus = h.C.Mstatus&^0x1888 | on<<7 | uint64(h.Mode)<<11
	h.Mode, h.PC, h.Held, h.At = 3, place(h.C.Mtvec, cause), false, 0
}

// toMiddle: likewise, that the middle mode takes.
func toMiddle(m *api.Machine, cause, value uint64) {
	h := &m.Hart
	h.C.Sepc, h.C.Scause, h.C.Stval = h.PC, cause, value
	on := h.C.Mstatus >> 1 & 1
	h.C.Mstatus = h.C.Mstatus&^0x122 | on<<5 | uint64(h.Mode)<<8
	h.Mode, h.PC, h.Held, h.At = 1, place(h.C.Stvec, cause), false, 0
}

// place: where the program for a cause begins.
func place(vector, cause uint64) uint64 {
	if cause > interrupt && vector%4 == 1 {
		return vector - 1 + 4*(cause-interrupt)
	}
	return vector / 4 * 4
}

// interrupt: the bit of a cause that is one.
const interrupt = uint64(1) << 63
