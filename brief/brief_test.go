package brief

import (
	"strings"
	"testing"

	"tandem/api"
	"tandem/decode"
)

// A row is a kind of short instructions as a picture, the highest bit first, and the picture of its words: 0 and 1
// have to be so, - may be either. A letter is one bit of the short one, and stands in the word wherever that bit
// does: a to l are the bits 0 to 11 of its number (the highest of them is also its sign), ABCDE is R, KLMNO S,
// PQR and XYZ are the low bits of r' and s'. A row without a word has no instruction. The first row that a short
// one fits holds.
type row struct{ short, word string }

// low0: those whose bits 1:0 are 0.
var low0 = []row{
	{"000 00 0000 0 0 --- 00", ""},
	{"000 fe jihg c d XYZ 00", "00jihgfedc00 00010 000 01XYZ 0010011"},
	{"010 fed PQR c g XYZ 00", "00000gfedc00 01PQR 010 01XYZ 0000011"},
	{"011 fed PQR hg XYZ 00", "0000hgfed000 01PQR 011 01XYZ 0000011"},
	{"110 fed PQR c g XYZ 00", "00000gf 01XYZ 01PQR 010 edc00 0100011"},
	{"111 fed PQR hg XYZ 00", "0000hgf 01XYZ 01PQR 011 ed000 0100011"},
}

// low1: those whose bits 1:0 are 1.
var low1 = []row{
	{"000 f ABCDE edcba 01", "fffffffedcba ABCDE 000 ABCDE 0010011"},
	{"001 - 00000 ----- 01", ""},
	{"001 f ABCDE edcba 01", "fffffffedcba ABCDE 000 ABCDE 0011011"},
	{"010 f ABCDE edcba 01", "fffffffedcba 00000 000 ABCDE 0010011"},
	{"011 0 ----- 00000 01", ""},
	{"011 j 00010 e g ih f 01", "jjjihgfe0000 00010 000 00010 0010011"},
	{"011 f ABCDE edcba 01", "fffffffffffffffedcba ABCDE 0110111"},
	{"100 f 00 PQR edcba 01", "000000fedcba 01PQR 101 01PQR 0010011"},
	{"100 f 01 PQR edcba 01", "010000fedcba 01PQR 101 01PQR 0010011"},
	{"100 f 10 PQR edcba 01", "fffffffedcba 01PQR 111 01PQR 0010011"},
	{"100 0 11 PQR 00 XYZ 01", "0100000 01XYZ 01PQR 000 01PQR 0110011"},
	{"100 0 11 PQR 01 XYZ 01", "0000000 01XYZ 01PQR 100 01PQR 0110011"},
	{"100 0 11 PQR 10 XYZ 01", "0000000 01XYZ 01PQR 110 01PQR 0110011"},
	{"100 0 11 PQR 11 XYZ 01", "0000000 01XYZ 01PQR 111 01PQR 0110011"},
	{"100 1 11 PQR 00 XYZ 01", "0100000 01XYZ 01PQR 000 01PQR 0111011"},
	{"100 1 11 PQR 01 XYZ 01", "0000000 01XYZ 01PQR 000 01PQR 0111011"},
	{"101 l e ji k g h dcb f 01", "l kjihgfedcb l llllllll 00000 1101111"},
	{"110 i ed PQR hg cb f 01", "i iiihgf 00000 01PQR 000 edcb i 1100011"},
	{"111 i ed PQR hg cb f 01", "i iiihgf 00000 01PQR 001 edcb i 1100011"},
}

// low2: those whose bits 1:0 are 2.
var low2 = []row{
	{"000 f ABCDE edcba 10", "000000fedcba ABCDE 001 ABCDE 0010011"},
	{"010 - 00000 ----- 10", ""},
	{"010 f ABCDE edc hg 10", "0000hgfedc00 00010 010 ABCDE 0000011"},
	{"011 - 00000 ----- 10", ""},
	{"011 f ABCDE ed ihg 10", "000ihgfed000 00010 011 ABCDE 0000011"},
	{"100 0 00000 00000 10", ""},
	{"100 0 ABCDE 00000 10", "000000000000 ABCDE 000 00000 1100111"},
	{"100 0 ABCDE KLMNO 10", "0000000 KLMNO 00000 000 ABCDE 0110011"},
	{"100 1 00000 00000 10", "000000000001 00000 000 00000 1110011"},
	{"100 1 ABCDE 00000 10", "000000000000 ABCDE 000 00001 1100111"},
	{"100 1 ABCDE KLMNO 10", "0000000 KLMNO ABCDE 000 ABCDE 0110011"},
	{"110 fedc hg KLMNO 10", "0000hgf KLMNO 00010 010 edc00 0100011"},
	{"111 fed ihg KLMNO 10", "000ihgf KLMNO 00010 011 ed000 0100011"},
}

// rows: all of them, their pictures without the spaces.
func rows(t *testing.T) []row {
	t.Helper()
	var out []row
	for _, list := range [][]row{low0, low1, low2} {
		for _, r := range list {
			r.short, r.word = strings.ReplaceAll(r.short, " ", ""), strings.ReplaceAll(r.word, " ", "")
			if len(r.short) != 16 || r.word != "" && len(r.word) != 32 {
				t.Fatalf("a picture that isn't whole: %+v", r)
			}
			out = append(out, r)
		}
	}
	return out
}

// fits: is the short one of that row?
func (r row) fits(h uint16) bool {
	for i := range 16 {
		bit := byte('0' + h>>(15-i)&1)
		if c := r.short[i]; (c == '0' || c == '1') && c != bit {
			return false
		}
	}
	return true
}

// read: the short one's word by the pictures.
func (r row) read(h uint16) uint32 {
	var letters [128]uint32
	letters['1'] = 1
	for i := range 16 {
		if c := r.short[i]; c >= 'A' {
			letters[c] = uint32(h >> (15 - i) & 1)
		}
	}
	var w uint32
	for i := range r.word {
		w = w<<1 | letters[r.word[i]]
	}
	return w
}

// apart: the word of the short one by the pictures, apart from the program.
func apart(list []row, h uint16) (uint32, api.Errno) {
	for _, r := range list {
		if r.fits(h) {
			if r.word == "" {
				break
			}
			return r.read(h), api.OK
		}
	}
	return 0, api.ErrCode
}

func wantWord(t *testing.T, h uint16, w uint32) {
	t.Helper()
	if got, e := Word(h); got != w || e != api.OK {
		t.Errorf("Word(%04x): %08x, error %d, want %08x", h, got, e, w)
	}
}

// wantNone: no instruction, and nothing beside the error.
func wantNone(t *testing.T, h uint16) {
	t.Helper()
	if got, e := Word(h); got != 0 || e != api.ErrCode {
		t.Errorf("Word(%04x): %08x, error %d, want ErrCode and nothing", h, got, e)
	}
}

// P7.1: the chapter's examples.
func TestExamples(t *testing.T) {
	wantWord(t, 0x0001, 0x00000013)
	wantWord(t, 0x4505, 0x00100513)
	wantWord(t, 0x9002, 0x00100073)
	wantNone(t, 0x0000)
}

// P7.1: every short one, held against the pictures.
func TestAll(t *testing.T) {
	list, bad := rows(t), 0
	for h := range 1 << 16 {
		got, e := Word(uint16(h))
		w, f := apart(list, uint16(h))
		if got == w && e == f {
			continue
		}
		t.Errorf("Word(%04x): %08x, error %d, want %08x, error %d", h, got, e, w, f)
		if bad++; bad == 16 {
			t.FailNow()
		}
	}
}

// P7.1: Short of every short one, by the last figure of its number in base four.
func TestShort(t *testing.T) {
	for h := range 1 << 16 {
		if got := Short(uint16(h)); got != (h%4 < 3) {
			t.Fatalf("Short(%04x): %v", h, got)
		}
	}
}

// A known short one, as an assembler writes it, with the instruction that it is short for.
type known struct {
	h  uint16
	in api.Inst
}

// wantKnown: their words are these instructions.
func wantKnown(t *testing.T, list []known) {
	t.Helper()
	for _, c := range list {
		w, e := Word(c.h)
		in, f := decode.Word(w)
		if e != api.OK || f != api.OK || in != c.in {
			t.Errorf("Word(%04x): %08x, error %d: %+v, error %d, want %+v", c.h, w, e, in, f, c.in)
		}
	}
}

// P7.1: those of small registers and places without a sign: the least number, the greatest, and each bit of one.
func TestPlaces(t *testing.T) {
	wantKnown(t, []known{
		{0x0040, api.Inst{Op: api.Addi, Rd: 8, Rs1: 2, Imm: 4}},
		{0x0020, api.Inst{Op: api.Addi, Rd: 8, Rs1: 2, Imm: 8}},
		{0x0800, api.Inst{Op: api.Addi, Rd: 8, Rs1: 2, Imm: 16}},
		{0x1000, api.Inst{Op: api.Addi, Rd: 8, Rs1: 2, Imm: 32}},
		{0x0080, api.Inst{Op: api.Addi, Rd: 8, Rs1: 2, Imm: 64}},
		{0x0100, api.Inst{Op: api.Addi, Rd: 8, Rs1: 2, Imm: 128}},
		{0x0200, api.Inst{Op: api.Addi, Rd: 8, Rs1: 2, Imm: 256}},
		{0x0400, api.Inst{Op: api.Addi, Rd: 8, Rs1: 2, Imm: 512}},
		{0x1ffc, api.Inst{Op: api.Addi, Rd: 15, Rs1: 2, Imm: 1020}},
		{0x4000, api.Inst{Op: api.Lw, Rd: 8, Rs1: 8}},
		{0x41c8, api.Inst{Op: api.Lw, Rd: 10, Rs1: 11, Imm: 4}},
		{0x5ffc, api.Inst{Op: api.Lw, Rd: 15, Rs1: 15, Imm: 124}},
		{0x6000, api.Inst{Op: api.Ld, Rd: 8, Rs1: 8}},
		{0x6588, api.Inst{Op: api.Ld, Rd: 10, Rs1: 11, Imm: 8}},
		{0x7ffc, api.Inst{Op: api.Ld, Rd: 15, Rs1: 15, Imm: 248}},
		{0xc000, api.Inst{Op: api.Sw, Rs1: 8, Rs2: 8}},
		{0xc1c8, api.Inst{Op: api.Sw, Rs1: 11, Rs2: 10, Imm: 4}},
		{0xdffc, api.Inst{Op: api.Sw, Rs1: 15, Rs2: 15, Imm: 124}},
		{0xe000, api.Inst{Op: api.Sd, Rs1: 8, Rs2: 8}},
		{0xe588, api.Inst{Op: api.Sd, Rs1: 11, Rs2: 10, Imm: 8}},
		{0xfffc, api.Inst{Op: api.Sd, Rs1: 15, Rs2: 15, Imm: 248}},
	})
}

// P7.1: numbers with their sign, at their edges.
func TestNumbersWithSign(t *testing.T) {
	wantKnown(t, []known{
		{0x0505, api.Inst{Op: api.Addi, Rd: 10, Rs1: 10, Imm: 1}},
		{0x157d, api.Inst{Op: api.Addi, Rd: 10, Rs1: 10, Imm: -1}},
		{0x057d, api.Inst{Op: api.Addi, Rd: 10, Rs1: 10, Imm: 31}},
		{0x1501, api.Inst{Op: api.Addi, Rd: 10, Rs1: 10, Imm: -32}},
		{0x357d, api.Inst{Op: api.Addiw, Rd: 10, Rs1: 10, Imm: -1}},
		{0x2501, api.Inst{Op: api.Addiw, Rd: 10, Rs1: 10}},
		{0x2ffd, api.Inst{Op: api.Addiw, Rd: 31, Rs1: 31, Imm: 31}},
		{0x3081, api.Inst{Op: api.Addiw, Rd: 1, Rs1: 1, Imm: -32}},
		{0x557d, api.Inst{Op: api.Addi, Rd: 10, Imm: -1}},
		{0x457d, api.Inst{Op: api.Addi, Rd: 10, Imm: 31}},
		{0x5501, api.Inst{Op: api.Addi, Rd: 10, Imm: -32}},
		{0x4001, api.Inst{Op: api.Addi}},
		{0x6505, api.Inst{Op: api.Lui, Rd: 10, Imm: 1 << 12}},
		{0x657d, api.Inst{Op: api.Lui, Rd: 10, Imm: 31 << 12}},
		{0x757d, api.Inst{Op: api.Lui, Rd: 10, Imm: -1 << 12}},
		{0x7501, api.Inst{Op: api.Lui, Rd: 10, Imm: -32 << 12}},
		{0x6141, api.Inst{Op: api.Addi, Rd: 2, Rs1: 2, Imm: 16}},
		{0x717d, api.Inst{Op: api.Addi, Rd: 2, Rs1: 2, Imm: -16}},
		{0x617d, api.Inst{Op: api.Addi, Rd: 2, Rs1: 2, Imm: 496}},
		{0x7101, api.Inst{Op: api.Addi, Rd: 2, Rs1: 2, Imm: -512}},
		{0x987d, api.Inst{Op: api.Andi, Rd: 8, Rs1: 8, Imm: -1}},
		{0x8bfd, api.Inst{Op: api.Andi, Rd: 15, Rs1: 15, Imm: 31}},
		{0x9b81, api.Inst{Op: api.Andi, Rd: 15, Rs1: 15, Imm: -32}},
		{0xa001, api.Inst{Op: api.Jal}},
		{0xaffd, api.Inst{Op: api.Jal, Imm: 2046}},
		{0xbffd, api.Inst{Op: api.Jal, Imm: -2}},
		{0xb001, api.Inst{Op: api.Jal, Imm: -2048}},
		{0xa009, api.Inst{Op: api.Jal, Imm: 2}},
		{0xa801, api.Inst{Op: api.Jal, Imm: 16}},
		{0xa005, api.Inst{Op: api.Jal, Imm: 32}},
		{0xa081, api.Inst{Op: api.Jal, Imm: 64}},
		{0xa041, api.Inst{Op: api.Jal, Imm: 128}},
		{0xa201, api.Inst{Op: api.Jal, Imm: 256}},
		{0xa101, api.Inst{Op: api.Jal, Imm: 1024}},
		{0xc001, api.Inst{Op: api.Beq, Rs1: 8}},
		{0xcffd, api.Inst{Op: api.Beq, Rs1: 15, Imm: 254}},
		{0xdffd, api.Inst{Op: api.Beq, Rs1: 15, Imm: -2}},
		{0xd001, api.Inst{Op: api.Beq, Rs1: 8, Imm: -256}},
		{0xe001, api.Inst{Op: api.Bne, Rs1: 8}},
		{0xe511, api.Inst{Op: api.Bne, Rs1: 10, Imm: 12}},
		{0xfffd, api.Inst{Op: api.Bne, Rs1: 15, Imm: -2}},
		{0xf001, api.Inst{Op: api.Bne, Rs1: 8, Imm: -256}},
	})
}

// P7.1: the sums of small registers, by bits 12, 11:10 and 6:5, and the shifts at their edges.
func TestSmallSums(t *testing.T) {
	wantKnown(t, []known{
		{0x8001, api.Inst{Op: api.Srli, Rd: 8, Rs1: 8}},
		{0x93fd, api.Inst{Op: api.Srli, Rd: 15, Rs1: 15, Imm: 63}},
		{0x9101, api.Inst{Op: api.Srli, Rd: 10, Rs1: 10, Imm: 32}},
		{0x8401, api.Inst{Op: api.Srai, Rd: 8, Rs1: 8}},
		{0x97fd, api.Inst{Op: api.Srai, Rd: 15, Rs1: 15, Imm: 63}},
		{0x857d, api.Inst{Op: api.Srai, Rd: 10, Rs1: 10, Imm: 31}},
		{0x8d0d, api.Inst{Op: api.Sub, Rd: 10, Rs1: 10, Rs2: 11}},
		{0x8d2d, api.Inst{Op: api.Xor, Rd: 10, Rs1: 10, Rs2: 11}},
		{0x8d4d, api.Inst{Op: api.Or, Rd: 10, Rs1: 10, Rs2: 11}},
		{0x8d6d, api.Inst{Op: api.And, Rd: 10, Rs1: 10, Rs2: 11}},
		{0x9d0d, api.Inst{Op: api.Subw, Rd: 10, Rs1: 10, Rs2: 11}},
		{0x9d2d, api.Inst{Op: api.Addw, Rd: 10, Rs1: 10, Rs2: 11}},
	})
	for h := range uint16(64) {
		wantNone(t, 0x9c41|h<<2&0x1c|h<<4&0x380) // bit 12 is 1, bits 6:5 are 2
		wantNone(t, 0x9c61|h<<2&0x1c|h<<4&0x380) // and 3
	}
}

// P7.1: those whose bits 1:0 are 2.
func TestStack(t *testing.T) {
	wantKnown(t, []known{
		{0x0506, api.Inst{Op: api.Slli, Rd: 10, Rs1: 10, Imm: 1}},
		{0x157e, api.Inst{Op: api.Slli, Rd: 10, Rs1: 10, Imm: 63}},
		{0x1002, api.Inst{Op: api.Slli, Imm: 32}},
		{0x4082, api.Inst{Op: api.Lw, Rd: 1, Rs1: 2}},
		{0x4512, api.Inst{Op: api.Lw, Rd: 10, Rs1: 2, Imm: 4}},
		{0x5ffe, api.Inst{Op: api.Lw, Rd: 31, Rs1: 2, Imm: 252}},
		{0x6082, api.Inst{Op: api.Ld, Rd: 1, Rs1: 2}},
		{0x60a2, api.Inst{Op: api.Ld, Rd: 1, Rs1: 2, Imm: 8}},
		{0x7ffe, api.Inst{Op: api.Ld, Rd: 31, Rs1: 2, Imm: 504}},
		{0x8082, api.Inst{Op: api.Jalr, Rs1: 1}},
		{0x9502, api.Inst{Op: api.Jalr, Rd: 1, Rs1: 10}},
		{0x852e, api.Inst{Op: api.Add, Rd: 10, Rs2: 11}},
		{0x8006, api.Inst{Op: api.Add, Rs2: 1}},
		{0x952e, api.Inst{Op: api.Add, Rd: 10, Rs1: 10, Rs2: 11}},
		{0x9006, api.Inst{Op: api.Add, Rs2: 1}},
		{0x9002, api.Inst{Op: api.Ebreak}},
		{0xc002, api.Inst{Op: api.Sw, Rs1: 2}},
		{0xc22a, api.Inst{Op: api.Sw, Rs1: 2, Rs2: 10, Imm: 4}},
		{0xdffe, api.Inst{Op: api.Sw, Rs1: 2, Rs2: 31, Imm: 252}},
		{0xe002, api.Inst{Op: api.Sd, Rs1: 2}},
		{0xe406, api.Inst{Op: api.Sd, Rs1: 2, Rs2: 1, Imm: 8}},
		{0xfffe, api.Inst{Op: api.Sd, Rs1: 2, Rs2: 31, Imm: 504}},
	})
	wantNone(t, 0x8002)
}

// P7.1: a number that may not be 0.
func TestNumberMayNotBeZero(t *testing.T) {
	for s := range uint16(8) {
		wantNone(t, s<<2)
	}
	for r := range uint16(32) {
		wantNone(t, 0x6001|r<<7)
	}
	wantKnown(t, []known{
		{0x7109, api.Inst{Op: api.Addi, Rd: 2, Rs1: 2, Imm: -512 + 128}},
		{0x6109, api.Inst{Op: api.Addi, Rd: 2, Rs1: 2, Imm: 128}},
		{0x7001, api.Inst{Op: api.Lui, Imm: -32 << 12}},
		{0x7081, api.Inst{Op: api.Lui, Rd: 1, Imm: -32 << 12}},
		{0x6185, api.Inst{Op: api.Lui, Rd: 3, Imm: 1 << 12}},
		{0x6005, api.Inst{Op: api.Lui, Imm: 1 << 12}},
	})
}

// P7.1: R that may not be 0, whatever the other bits.
func TestRegisterMayNotBeZero(t *testing.T) {
	for m := range uint16(64) {
		other := m<<2&0x7c | m<<7&0x1000
		for _, h := range []uint16{0x2001, 0x4002, 0x6002} {
			wantNone(t, h|other)
			if _, e := Word(h | other | 1<<7); e != api.OK {
				t.Errorf("Word(%04x): error %d", h|other|1<<7, e)
			}
		}
	}
}

// P7.1: f's without an instruction.
func TestOtherKinds(t *testing.T) {
	for m := range uint16(1 << 11) {
		for _, h := range []uint16{0x2000, 0x8000, 0xa000, 0x2002, 0xa002} {
			wantNone(t, h|m<<2)
		}
	}
}

// P7.2: what is told has bits 1:0 both 1, and is an instruction of chapter 6; none is told of one that isn't short.
func TestWords(t *testing.T) {
	told := 0
	for i := range 1 << 16 {
		h := uint16(i)
		w, e := Word(h)
		if e != api.OK {
			wantNone(t, h)
			continue
		}
		told++
		if _, f := decode.Word(w); w%4 != 3 || f != api.OK {
			t.Errorf("Word(%04x): %08x", h, w)
		}
		if !Short(h) || h%4 == 3 {
			t.Errorf("Word(%04x): %08x of one that isn't short", h, w)
		}
	}
	if told == 0 {
		t.Error("no word was told")
	}
}

// P7.2: one that isn't short is ErrCode.
func TestLong(t *testing.T) {
	for h := 3; h < 1<<16; h += 4 {
		wantNone(t, uint16(h))
		if Short(uint16(h)) {
			t.Errorf("Short(%04x): true", h)
		}
	}
}

// P1 of DOC.md: the calls end and don't panic, and hang on their argument alone.
func TestAsksNothingElse(t *testing.T) {
	words := make([]uint32, 1<<16)
	for h := range words {
		words[h], _ = Word(uint16(h))
	}
	for h := len(words) - 1; h >= 0; h-- {
		if w, e := Word(uint16(h)); w != words[h] || (e == api.OK) != (w != 0) {
			t.Errorf("Word(%04x): %08x, error %d, and before %08x", h, w, e, words[h])
		}
	}
}
