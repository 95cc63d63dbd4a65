package decode

import (
	"math"
	"math/rand"
	"strings"
	"testing"

	"tandem/api"
)

// A row is an Op as a picture of its words, the highest bit first: 0 and 1 have to be so, d, s and t are the
// bits of Rd, Rs1 and Rs2, i those of the number, - are free.
type row struct {
	op      int
	picture string
	form    byte // of the number; 0: none
}

// places: the number's bits in the word, the highest first, and how many noughts come below.
var places = map[byte]struct {
	from    []int
	noughts int
	signed  bool
}{
	'I': {[]int{31, 30, 29, 28, 27, 26, 25, 24, 23, 22, 21, 20}, 0, true},
	'S': {[]int{31, 30, 29, 28, 27, 26, 25, 11, 10, 9, 8, 7}, 0, true},
	'B': {[]int{31, 7, 30, 29, 28, 27, 26, 25, 11, 10, 9, 8}, 1, true},
	'U': {[]int{31, 30, 29, 28, 27, 26, 25, 24, 23, 22, 21, 20, 19, 18, 17, 16, 15, 14, 13, 12}, 12, true},
	'J': {[]int{31, 19, 18, 17, 16, 15, 14, 13, 12, 20, 30, 29, 28, 27, 26, 25, 24, 23, 22, 21}, 1, true},
	'6': {[]int{25, 24, 23, 22, 21, 20}, 0, false},
	'5': {[]int{24, 23, 22, 21, 20}, 0, false},
	'C': {[]int{31, 30, 29, 28, 27, 26, 25, 24, 23, 22, 21, 20}, 0, false},
}

// rows: all Ops of api.
var rows = []row{
	{api.Lui, "iiiiiiiiiiiiiiiiiiii ddddd 0110111", 'U'},
	{api.Auipc, "iiiiiiiiiiiiiiiiiiii ddddd 0010111", 'U'},
	{api.Jal, "iiiiiiiiiiiiiiiiiiii ddddd 1101111", 'J'},
	{api.Jalr, "iiiiiiiiiiii sssss 000 ddddd 1100111", 'I'},
	{api.Beq, "iiiiiii ttttt sssss 000 iiiii 1100011", 'B'},
	{api.Bne, "iiiiiii ttttt sssss 001 iiiii 1100011", 'B'},
	{api.Blt, "iiiiiii ttttt sssss 100 iiiii 1100011", 'B'},
	{api.Bge, "iiiiiii ttttt sssss 101 iiiii 1100011", 'B'},
	{api.Bltu, "iiiiiii ttttt sssss 110 iiiii 1100011", 'B'},
	{api.Bgeu, "iiiiiii ttttt sssss 111 iiiii 1100011", 'B'},
	{api.Lb, "iiiiiiiiiiii sssss 000 ddddd 0000011", 'I'},
	{api.Lh, "iiiiiiiiiiii sssss 001 ddddd 0000011", 'I'},
	{api.Lw, "iiiiiiiiiiii sssss 010 ddddd 0000011", 'I'},
	{api.Ld, "iiiiiiiiiiii sssss 011 ddddd 0000011", 'I'},
	{api.Lbu, "iiiiiiiiiiii sssss 100 ddddd 0000011", 'I'},
	{api.Lhu, "iiiiiiiiiiii sssss 101 ddddd 0000011", 'I'},
	{api.Lwu, "iiiiiiiiiiii sssss 110 ddddd 0000011", 'I'},
	{api.Sb, "iiiiiii ttttt sssss 000 iiiii 0100011", 'S'},
	{api.Sh, "iiiiiii ttttt sssss 001 iiiii 0100011", 'S'},
	{api.Sw, "iiiiiii ttttt sssss 010 iiiii 0100011", 'S'},
	{api.Sd, "iiiiiii ttttt sssss 011 iiiii 0100011", 'S'},
	{api.Addi, "iiiiiiiiiiii sssss 000 ddddd 0010011", 'I'},
	{api.Slti, "iiiiiiiiiiii sssss 010 ddddd 0010011", 'I'},
	{api.Sltiu, "iiiiiiiiiiii sssss 011 ddddd 0010011", 'I'},
	{api.Xori, "iiiiiiiiiiii sssss 100 ddddd 0010011", 'I'},
	{api.Ori, "iiiiiiiiiiii sssss 110 ddddd 0010011", 'I'},
	{api.Andi, "iiiiiiiiiiii sssss 111 ddddd 0010011", 'I'},
	{api.Slli, "000000 iiiiii sssss 001 ddddd 0010011", '6'},
	{api.Srli, "000000 iiiiii sssss 101 ddddd 0010011", '6'},
	{api.Srai, "010000 iiiiii sssss 101 ddddd 0010011", '6'},
	{api.Add, "0000000 ttttt sssss 000 ddddd 0110011", 0},
	{api.Sub, "0100000 ttttt sssss 000 ddddd 0110011", 0},
	{api.Sll, "0000000 ttttt sssss 001 ddddd 0110011", 0},
	{api.Slt, "0000000 ttttt sssss 010 ddddd 0110011", 0},
	{api.Sltu, "0000000 ttttt sssss 011 ddddd 0110011", 0},
	{api.Xor, "0000000 ttttt sssss 100 ddddd 0110011", 0},
	{api.Srl, "0000000 ttttt sssss 101 ddddd 0110011", 0},
	{api.Sra, "0100000 ttttt sssss 101 ddddd 0110011", 0},
	{api.Or, "0000000 ttttt sssss 110 ddddd 0110011", 0},
	{api.And, "0000000 ttttt sssss 111 ddddd 0110011", 0},
	{api.Addiw, "iiiiiiiiiiii sssss 000 ddddd 0011011", 'I'},
	{api.Slliw, "0000000 iiiii sssss 001 ddddd 0011011", '5'},
	{api.Srliw, "0000000 iiiii sssss 101 ddddd 0011011", '5'},
	{api.Sraiw, "0100000 iiiii sssss 101 ddddd 0011011", '5'},
	{api.Addw, "0000000 ttttt sssss 000 ddddd 0111011", 0},
	{api.Subw, "0100000 ttttt sssss 000 ddddd 0111011", 0},
	{api.Sllw, "0000000 ttttt sssss 001 ddddd 0111011", 0},
	{api.Srlw, "0000000 ttttt sssss 101 ddddd 0111011", 0},
	{api.Sraw, "0100000 ttttt sssss 101 ddddd 0111011", 0},
	{api.Fence, "----------------- 000 ----- 0001111", 0},
	{api.FenceI, "----------------- 001 ----- 0001111", 0},
	{api.Ecall, "00000000000000000000000001110011", 0},
	{api.Ebreak, "00000000000100000000000001110011", 0},
	{api.Csrrw, "iiiiiiiiiiii sssss 001 ddddd 1110011", 'C'},
	{api.Csrrs, "iiiiiiiiiiii sssss 010 ddddd 1110011", 'C'},
	{api.Csrrc, "iiiiiiiiiiii sssss 011 ddddd 1110011", 'C'},
	{api.Csrrwi, "iiiiiiiiiiii sssss 101 ddddd 1110011", 'C'},
	{api.Csrrsi, "iiiiiiiiiiii sssss 110 ddddd 1110011", 'C'},
	{api.Csrrci, "iiiiiiiiiiii sssss 111 ddddd 1110011", 'C'},
	{api.Mul, "0000001 ttttt sssss 000 ddddd 0110011", 0},
	{api.Mulh, "0000001 ttttt sssss 001 ddddd 0110011", 0},
	{api.Mulhsu, "0000001 ttttt sssss 010 ddddd 0110011", 0},
	{api.Mulhu, "0000001 ttttt sssss 011 ddddd 0110011", 0},
	{api.Div, "0000001 ttttt sssss 100 ddddd 0110011", 0},
	{api.Divu, "0000001 ttttt sssss 101 ddddd 0110011", 0},
	{api.Rem, "0000001 ttttt sssss 110 ddddd 0110011", 0},
	{api.Remu, "0000001 ttttt sssss 111 ddddd 0110011", 0},
	{api.Mulw, "0000001 ttttt sssss 000 ddddd 0111011", 0},
	{api.Divw, "0000001 ttttt sssss 100 ddddd 0111011", 0},
	{api.Divuw, "0000001 ttttt sssss 101 ddddd 0111011", 0},
	{api.Remw, "0000001 ttttt sssss 110 ddddd 0111011", 0},
	{api.Remuw, "0000001 ttttt sssss 111 ddddd 0111011", 0},
	{api.LrW, "00010-- 00000 sssss 010 ddddd 0101111", 0},
	{api.ScW, "00011-- ttttt sssss 010 ddddd 0101111", 0},
	{api.SwapW, "00001-- ttttt sssss 010 ddddd 0101111", 0},
	{api.AddAW, "00000-- ttttt sssss 010 ddddd 0101111", 0},
	{api.XorAW, "00100-- ttttt sssss 010 ddddd 0101111", 0},
	{api.AndAW, "01100-- ttttt sssss 010 ddddd 0101111", 0},
	{api.OrAW, "01000-- ttttt sssss 010 ddddd 0101111", 0},
	{api.MinAW, "10000-- ttttt sssss 010 ddddd 0101111", 0},
	{api.MaxAW, "10100-- ttttt sssss 010 ddddd 0101111", 0},
	{api.MinuAW, "11000-- ttttt sssss 010 ddddd 0101111", 0},
	{api.MaxuAW, "11100-- ttttt sssss 010 ddddd 0101111", 0},
	{api.LrD, "00010-- 00000 sssss 011 ddddd 0101111", 0},
	{api.ScD, "00011-- ttttt sssss 011 ddddd 0101111", 0},
	{api.SwapD, "00001-- ttttt sssss 011 ddddd 0101111", 0},
	{api.AddAD, "00000-- ttttt sssss 011 ddddd 0101111", 0},
	{api.XorAD, "00100-- ttttt sssss 011 ddddd 0101111", 0},
	{api.AndAD, "01100-- ttttt sssss 011 ddddd 0101111", 0},
	{api.OrAD, "01000-- ttttt sssss 011 ddddd 0101111", 0},
	{api.MinAD, "10000-- ttttt sssss 011 ddddd 0101111", 0},
	{api.MaxAD, "10100-- ttttt sssss 011 ddddd 0101111", 0},
	{api.MinuAD, "11000-- ttttt sssss 011 ddddd 0101111", 0},
	{api.MaxuAD, "11100-- ttttt sssss 011 ddddd 0101111", 0},
	{api.Mret, "00110000001000000000000001110011", 0},
	{api.Sret, "00010000001000000000000001110011", 0},
	{api.Wfi, "00010000010100000000000001110011", 0},
	{api.Sfence, "0001001 ttttt sssss 000 00000 1110011", 0},
}

// firstRd, firstRs1, firstRs2: the lowest bits of the registers.
const firstRd, firstRs1, firstRs2 = 7, 15, 20

// A shape is a row as masks.
type shape struct {
	row
	fixed, ones                uint32
	usesRd, usesRs1, usesRs2   bool
	free                       uint32 // the bits that the Op doesn't look at
	number                     uint32 // the number's bits
	registerRd, registerSource uint32
}

// shapes: the rows as masks, by the low seven bits.
var shapes = makeShapes()

func makeShapes() [128][]shape {
	var out [128][]shape
	for _, r := range rows {
		s := makeShape(r)
		out[s.ones&127] = append(out[s.ones&127], s)
	}
	return out
}

func makeShape(r row) shape {
	s := shape{row: r}
	picture := strings.ReplaceAll(r.picture, " ", "")
	if len(picture) != 32 {
		panic("not 32 bits: " + r.picture)
	}
	for i := range 32 {
		bit := uint32(1) << (31 - i)
		switch picture[i] {
		case '1':
			s.ones |= bit
			s.fixed |= bit
		case '0':
			s.fixed |= bit
		case 'd':
			s.usesRd = true
			s.registerRd |= bit
		case 's':
			s.usesRs1 = true
			s.registerSource |= bit
		case 't':
			s.usesRs2 = true
			s.registerSource |= bit
		case 'i':
			s.number |= bit
		case '-':
			s.free |= bit
		}
	}
	return s
}

// apart: the instruction of the word by the pictures, apart from the program.
func apart(w uint32) (api.Inst, api.Errno) {
	list := shapes[w%128]
	for i := range list {
		if s := &list[i]; w&s.fixed == s.ones {
			return s.read(w), api.OK
		}
	}
	return api.Inst{}, api.ErrCode
}

func (s *shape) read(w uint32) api.Inst {
	in := api.Inst{Op: s.op}
	if s.usesRd {
		in.Rd = int(w/(1<<firstRd)) % 32
	}
	if s.usesRs1 {
		in.Rs1 = int(w/(1<<firstRs1)) % 32
	}
	if s.usesRs2 {
		in.Rs2 = int(w/(1<<firstRs2)) % 32
	}
	if s.form != 0 {
		in.Imm = number(s.form, w)
	}
	return in
}

// number: the number of that form, bit by bit.
func number(form byte, w uint32) int64 {
	p := places[form]
	var n int64
	for _, place := range p.from {
		n = 2*n + int64(w/(1<<place)%2)
	}
	if p.signed && w/(1<<p.from[0])%2 == 1 {
		n -= 1 << len(p.from)
	}
	return n << p.noughts
}

// want: the word's instruction is that of the pictures.
func want(t *testing.T, w uint32) {
	got, e := Word(w)
	in, f := apart(w)
	if got != in || e != f {
		t.Helper()
		t.Fatalf("Word(%08x): %+v, error %d, want %+v, error %d", w, got, e, in, f)
	}
}

// wantInst: that instruction of the word.
func wantInst(t *testing.T, w uint32, in api.Inst) {
	t.Helper()
	if got, e := Word(w); got != in || e != api.OK {
		t.Errorf("Word(%08x): %+v, error %d, want %+v", w, got, e, in)
	}
}

// wantNone: no instruction, and nothing beside the error.
func wantNone(t *testing.T, w uint32) {
	t.Helper()
	if got, e := Word(w); got != (api.Inst{}) || e != api.ErrCode {
		t.Errorf("Word(%08x): %+v, error %d, want ErrCode and nothing", w, got, e)
	}
}

func eachShape(f func(s *shape)) {
	for i := range shapes {
		for j := range shapes[i] {
			f(&shapes[i][j])
		}
	}
}

// P6.1: the chapter's examples.
func TestExamples(t *testing.T) {
	wantInst(t, 0x00500093, api.Inst{Op: api.Addi, Rd: 1, Imm: 5})
	wantInst(t, 0xfff00093, api.Inst{Op: api.Addi, Rd: 1, Imm: -1})
	wantInst(t, 0x0000006f, api.Inst{Op: api.Jal})
	wantNone(t, 0x00000000)
	wantNone(t, 0xffffffff)
}

// P6.1: words as an assembler writes them, each form with a number above 0 and one below.
func TestKnownWords(t *testing.T) {
	for _, c := range []struct {
		w  uint32
		in api.Inst
	}{
		{0x100002b7, api.Inst{Op: api.Lui, Rd: 5, Imm: 0x10000000}},
		{0xfffff537, api.Inst{Op: api.Lui, Rd: 10, Imm: -4096}},
		{0x80000537, api.Inst{Op: api.Lui, Rd: 10, Imm: math.MinInt32}},
		{0x7ffff517, api.Inst{Op: api.Auipc, Rd: 10, Imm: 0x7ffff000}},
		{0xfedff06f, api.Inst{Op: api.Jal, Imm: -20}},
		{0x001000ef, api.Inst{Op: api.Jal, Rd: 1, Imm: 2048}},
		{0x7ffff0ef, api.Inst{Op: api.Jal, Rd: 1, Imm: 1<<20 - 2}},
		{0x800000ef, api.Inst{Op: api.Jal, Rd: 1, Imm: -1 << 20}},
		{0x00008067, api.Inst{Op: api.Jalr, Rs1: 1}},
		{0xfe030ce3, api.Inst{Op: api.Beq, Rs1: 6, Imm: -8}},
		{0x00b51463, api.Inst{Op: api.Bne, Rs1: 10, Rs2: 11, Imm: 8}},
		{0x7eb57fe3, api.Inst{Op: api.Bgeu, Rs1: 10, Rs2: 11, Imm: 4094}},
		{0x80b54063, api.Inst{Op: api.Blt, Rs1: 10, Rs2: 11, Imm: -4096}},
		{0x0052c303, api.Inst{Op: api.Lbu, Rd: 6, Rs1: 5, Imm: 5}},
		{0x00813083, api.Inst{Op: api.Ld, Rd: 1, Rs1: 2, Imm: 8}},
		{0x80052503, api.Inst{Op: api.Lw, Rd: 10, Rs1: 10, Imm: -2048}},
		{0x00628023, api.Inst{Op: api.Sb, Rs1: 5, Rs2: 6}},
		{0x00113423, api.Inst{Op: api.Sd, Rs1: 2, Rs2: 1, Imm: 8}},
		{0xfe112e23, api.Inst{Op: api.Sw, Rs1: 2, Rs2: 1, Imm: -4}},
		{0x7e1f9fa3, api.Inst{Op: api.Sh, Rs1: 31, Rs2: 1, Imm: 2047}},
		{0x00137313, api.Inst{Op: api.Andi, Rd: 6, Rs1: 6, Imm: 1}},
		{0x43f55513, api.Inst{Op: api.Srai, Rd: 10, Rs1: 10, Imm: 63}},
		{0x02051513, api.Inst{Op: api.Slli, Rd: 10, Rs1: 10, Imm: 32}},
		{0x03f55513, api.Inst{Op: api.Srli, Rd: 10, Rs1: 10, Imm: 63}},
		{0xfff5051b, api.Inst{Op: api.Addiw, Rd: 10, Rs1: 10, Imm: -1}},
		{0x41f5551b, api.Inst{Op: api.Sraiw, Rd: 10, Rs1: 10, Imm: 31}},
		{0x00b50533, api.Inst{Op: api.Add, Rd: 10, Rs1: 10, Rs2: 11}},
		{0x40b50533, api.Inst{Op: api.Sub, Rd: 10, Rs1: 10, Rs2: 11}},
		{0x02b50533, api.Inst{Op: api.Mul, Rd: 10, Rs1: 10, Rs2: 11}},
		{0x40b5553b, api.Inst{Op: api.Sraw, Rd: 10, Rs1: 10, Rs2: 11}},
		{0x02b5753b, api.Inst{Op: api.Remuw, Rd: 10, Rs1: 10, Rs2: 11}},
		{0x0ff0000f, api.Inst{Op: api.Fence}},
		{0x0000100f, api.Inst{Op: api.FenceI}},
		{0x00b6252f, api.Inst{Op: api.AddAW, Rd: 10, Rs1: 12, Rs2: 11}},
		{0x1006352f, api.Inst{Op: api.LrD, Rd: 10, Rs1: 12}},
		{0x1eb6352f, api.Inst{Op: api.ScD, Rd: 10, Rs1: 12, Rs2: 11}},
		{0x30059573, api.Inst{Op: api.Csrrw, Rd: 10, Rs1: 11, Imm: 0x300}},
		{0xfffff573, api.Inst{Op: api.Csrrci, Rd: 10, Rs1: 31, Imm: 0xfff}},
		{0x00000073, api.Inst{Op: api.Ecall}},
		{0x00100073, api.Inst{Op: api.Ebreak}},
		{0x30200073, api.Inst{Op: api.Mret}},
		{0x10200073, api.Inst{Op: api.Sret}},
		{0x10500073, api.Inst{Op: api.Wfi}},
		{0x12b50073, api.Inst{Op: api.Sfence, Rs1: 10, Rs2: 11}},
	} {
		wantInst(t, c.w, c.in)
	}
}

// P6.1: words that are nearly instructions.
func TestNearlyInstructions(t *testing.T) {
	for _, w := range []uint32{
		0x00001067, 0x00007067, // jumps of f3 1 and 7
		0x00002063, 0x00003063, // branches of f3 2 and 3
		0x00007003,                                     // a load of f3 7
		0x00004023, 0x00005023, 0x00006023, 0x00007023, // stores of f3 4 to 7
		0x04001013, 0x40001013, 0xfc001013, // shifts to the left with other high bits than 0
		0x04005013, 0x44005013, 0x80005013, // and to the right
		0x0200101b, 0x4000101b, 0x0200501b, 0x4200501b, // of words
		0x0000201b, 0x0000301b, 0x0000401b, 0x0000601b, 0x0000701b,
		0x04000033, 0x40001033, 0x40002033, 0x40003033, 0x40004033, 0x40006033, 0x40007033, 0x42000033,
		0x0000203b, 0x0000303b, 0x0000403b, 0x0000603b, 0x0000703b,
		0x0200103b, 0x0200203b, 0x0200303b, 0x4000103b, 0x4000403b, 0x4000703b, 0x0400003b,
		0x0000200f, 0x0000700f, // fences of f3 2 and 7
		0x1010202f, 0x1080302f, 0x11f0202f, // a load that is kept with a second source
		0x0000002f, 0x0000102f, 0x0000402f, 0x0000702f, // atomics of neither words nor doubles
		0x2800202f, 0xf800202f, 0x4800302f, 0x3000202f, // of no operation
		0x00004073,                                     // f3 4
		0x00200073, 0x00300073, 0x10300073, 0x10400073, // neither trap nor way back
		0x000000f3, 0x00008073, 0x001000f3, 0x00108073, 0x302000f3, 0x30208073, 0x102000f3, 0x105000f3, 0x10508073,
		0x120000f3, 0x12000ff3, 0x10000073, 0x14000073, // nearly Sfence
		0x70200073, 0xffff0073,
		0x00000001, 0x00000012, 0x00000010, 0x0000000b, 0x00000007, 0x00000043, 0x0000007f,
	} {
		wantNone(t, w)
	}
}

// P6.1: every way of the bits that choose an Op (the low seven, f3, f7, and bits 24:20), with the other
// registers' bits at their edges and by chance.
func TestAllKinds(t *testing.T) {
	r := rand.New(rand.NewSource(61))
	for kind := range uint32(1 << 22) {
		w := kind%128 | kind>>7%8<<12 | kind>>10<<20
		want(t, w)
		want(t, w|31<<firstRd)
		want(t, w|31<<firstRs1)
		want(t, w|r.Uint32()%32<<firstRd|r.Uint32()%32<<firstRs1)
	}
}

// P6.1: words by chance, and each Op's with all its free bits by chance.
func TestChance(t *testing.T) {
	r := rand.New(rand.NewSource(6))
	for range 1 << 21 {
		want(t, r.Uint32())
	}
	eachShape(func(s *shape) {
		for range 4096 {
			w := r.Uint32()&^s.fixed | s.ones
			wantInst(t, w, s.read(w))
		}
	})
}

// P6.1: the numbers at their edges, in every Op that has one: none, all and each single bit of it.
func TestNumbers(t *testing.T) {
	eachShape(func(s *shape) {
		numbers := []uint32{0, s.number}
		for bit := range 32 {
			one := uint32(1) << bit & s.number
			numbers = append(numbers, one, s.number&^one)
		}
		for _, n := range numbers {
			for _, registers := range []uint32{0, s.registerRd | s.registerSource} {
				w := s.ones | n | registers
				wantInst(t, w, s.read(w))
			}
		}
	})
}

// P6.1: one bit beside an Op's own, whichever it is.
func TestOneBitBeside(t *testing.T) {
	eachShape(func(s *shape) {
		for bit := range 32 {
			for other := range 32 {
				want(t, s.ones^1<<bit)
				want(t, (s.ones|^s.fixed)^1<<bit)
				want(t, s.ones^1<<bit^1<<other)
			}
		}
	})
}

// P6.1: every Op of api has words, and no word is of two.
func TestEveryOp(t *testing.T) {
	words := make([]int, api.Sfence+1)
	eachShape(func(s *shape) {
		words[s.op]++
		if in, e := Word(s.ones); in.Op != s.op || e != api.OK {
			t.Errorf("Word(%08x): Op %d, error %d, want Op %d", s.ones, in.Op, e, s.op)
		}
		eachShape(func(o *shape) {
			if s.op != o.op && (s.ones^o.ones)&s.fixed&o.fixed == 0 {
				t.Errorf("the pictures of %d and %d have words in common", s.op, o.op)
			}
		})
	})
	for op := api.Lui; op <= api.Sfence; op++ {
		if words[op] != 1 {
			t.Errorf("Op %d has %d pictures", op, words[op])
		}
	}
}

// P6.2: registers are 0 to 31, an Op is one of api's, and the low two bits of its words are 1.
func TestKeptApart(t *testing.T) {
	r := rand.New(rand.NewSource(62))
	told := make([]int, api.Sfence+1)
	for i := range uint32(1 << 24) {
		w := i<<8 | r.Uint32()%256
		in, e := Word(w)
		if e != api.OK {
			if e != api.ErrCode || in != (api.Inst{}) {
				t.Fatalf("Word(%08x): %+v, error %d", w, in, e)
			}
			continue
		}
		if in.Op < api.Lui || in.Op > api.Sfence || w%4 != 3 {
			t.Fatalf("Word(%08x): Op %d", w, in.Op)
		}
		for _, register := range []int{in.Rd, in.Rs1, in.Rs2} {
			if register < 0 || register > 31 {
				t.Fatalf("Word(%08x): %+v", w, in)
			}
		}
		told[in.Op]++
	}
	if told[api.Lui] == 0 || told[api.MaxuAD] == 0 {
		t.Error("no words of an Op were met")
	}
}

// P6.2: no word whose low two bits aren't both 1 has an Op.
func TestLowBits(t *testing.T) {
	eachShape(func(s *shape) {
		for _, all := range []uint32{s.ones, s.ones | ^s.fixed} {
			for low := range uint32(3) {
				wantNone(t, all&^3|low)
			}
		}
	})
}

// P6.3: other registers in an Op's places: the same Op and number, with these registers; its other fields stay 0.
func TestRegisters(t *testing.T) {
	r := rand.New(rand.NewSource(63))
	eachShape(func(s *shape) {
		for range 8 {
			w := r.Uint32()&(s.number|s.free) | s.ones
			before, e := Word(w)
			if e != api.OK {
				t.Errorf("Word(%08x): error %d", w, e)
			}
			for n := range 32 {
				wantInst(t, w|register(s.usesRd, n, firstRd), with(before, s, n, 0, 0))
				wantInst(t, w|register(s.usesRs1, n, firstRs1), with(before, s, 0, n, 0))
				wantInst(t, w|register(s.usesRs2, n, firstRs2), with(before, s, 0, 0, n))
				d, a, b := n, r.Intn(32), r.Intn(32)
				all := register(s.usesRd, d, firstRd) | register(s.usesRs1, a, firstRs1) | register(s.usesRs2, b, firstRs2)
				wantInst(t, w|all, with(before, s, d, a, b))
			}
		}
	})
}

// register: the register's bits, if there is one.
func register(used bool, n, first int) uint32 {
	if !used {
		return 0
	}
	return uint32(n) << first
}

// with: the instruction with the registers that its Op uses.
func with(in api.Inst, s *shape, d, a, b int) api.Inst {
	in.Rd, in.Rs1, in.Rs2 = 0, 0, 0
	if s.usesRd {
		in.Rd = d
	}
	if s.usesRs1 {
		in.Rs1 = a
	}
	if s.usesRs2 {
		in.Rs2 = b
	}
	return in
}

// Free bits change nothing: those of the fences, and the ones that order atomic operations.
func TestFreeBits(t *testing.T) {
	r := rand.New(rand.NewSource(64))
	eachShape(func(s *shape) {
		for range 256 {
			w := r.Uint32()&^s.fixed&^s.free | s.ones
			wantInst(t, w|s.free, s.read(w))
			wantInst(t, w|r.Uint32()&s.free, s.read(w))
		}
	})
}

// P1 of DOC.md: the call ends and doesn't panic, and hangs on its argument alone.
func TestAsksNothingElse(t *testing.T) {
	r := rand.New(rand.NewSource(65))
	var list []uint32
	var first []api.Inst
	for range 4096 {
		w := r.Uint32() | 3
		in, _ := Word(w)
		list, first = append(list, w), append(first, in)
	}
	for i := len(list) - 1; i >= 0; i-- {
		if in, _ := Word(list[i]); in != first[i] {
			t.Errorf("Word(%08x): %+v, and before %+v", list[i], in, first[i])
		}
	}
}
