package image

import (
	"fmt"
	"math/rand"
	"strconv"
	"strings"

	"tandem/api"
)

// echo: sends each byte of the serial line back: a step, then three a look, and six with a byte (the fifth sends it).
const echo = "\xb7\x02\x00\x10\x03\xc3\x52\x00\x13\x73\x13\x00\xe3\x0c\x03\xfe\x03\xc3\x02\x00\x23\x80\x62\x00\x6f\xf0\xdf\xfe"

// still: a jump on the spot.
const still = 0x6f

const mret = 0x30200073

func code(words ...uint32) string {
	var b []byte
	for _, w := range words {
		b = append(b, byte(w), byte(w>>8), byte(w>>16), byte(w>>24))
	}
	return string(b)
}

// far: the program with a second one from the word number n on.
func far(first string, n int, second string) string {
	return first + strings.Repeat("\x00", 4*n-len(first)) + second
}

// The instructions: registers by their numbers.
func lui(rd uint32, n uint32) uint32       { return n&^0xfff | rd<<7 | 0x37 }
func here(rd uint32) uint32                { return rd<<7 | 0x17 }
func addi(rd, rs uint32, n int) uint32     { return number(n) | rs<<15 | rd<<7 | 0x13 }
func andi(rd, rs uint32, n int) uint32     { return number(n) | rs<<15 | 7<<12 | rd<<7 | 0x13 }
func add(rd, a, b uint32) uint32           { return b<<20 | a<<15 | rd<<7 | 0x33 }
func mul(rd, a, b uint32) uint32           { return 1<<25 | b<<20 | a<<15 | rd<<7 | 0x33 }
func load(f3, rd, rs uint32, n int) uint32 { return number(n) | rs<<15 | f3<<12 | rd<<7 | 0x03 }
func csr(f3, num, value, rd uint32) uint32 { return num<<20 | value<<15 | f3<<12 | rd<<7 | 0x73 }
func store(f3, v, rs uint32, n int) uint32 {
	return uint32(n)>>5&127<<25 | v<<20 | rs<<15 | f3<<12 | uint32(n)&31<<7 | 0x23
}
func number(n int) uint32 { return uint32(n) & 0xfff << 20 }
func branch(f3, a, b uint32, n int) uint32 {
	d := uint32(n)
	return d>>12&1<<31 | d>>5&63<<25 | b<<20 | a<<15 | f3<<12 | d>>1&15<<8 | d>>11&1<<7 | 0x63
}
func jump(n int) uint32 {
	d := uint32(n)
	return d>>20&1<<31 | d>>1&0x3ff<<21 | d>>11&1<<20 | d>>12&0xff<<12 | 0x6f
}

func lw(rd, rs uint32, n int) uint32  { return load(2, rd, rs, n) }
func ld(rd, rs uint32, n int) uint32  { return load(3, rd, rs, n) }
func lbu(rd, rs uint32, n int) uint32 { return load(4, rd, rs, n) }
func sb(v, rs uint32, n int) uint32   { return store(0, v, rs, n) }
func sw(v, rs uint32, n int) uint32   { return store(2, v, rs, n) }
func sd(v, rs uint32, n int) uint32   { return store(3, v, rs, n) }
func setCsr(num, rs uint32) uint32    { return csr(1, num, rs, 0) }
func setBits(num, n uint32) uint32    { return csr(6, num, n, 0) }

// squares: those of 0 to 9 as words from 80000100 on; then their sum is added up from the end, and its low byte is sent
// with step 116.
func squares() string {
	return code(here(5), addi(6, 0, 0), addi(5, 5, 0x100),
		mul(7, 6, 6), sw(7, 5, 0), addi(5, 5, 4), addi(6, 6, 1), addi(8, 0, 10), branch(4, 6, 8, -20),
		addi(9, 0, 0),
		addi(5, 5, -4), lw(7, 5, 0), add(9, 9, 7), addi(6, 6, -1), branch(1, 6, 0, -16),
		lui(10, 0x10000000), sb(9, 10, 0), still)
}

// sector: what the disk program writes into sector 5.
const sector = "a sector's bytes, which are sixty-four, are laid at 80000080: ..\n"

// diskProgram: writes the 64 bytes at 80000080 into sector 5, and reads them to 80000100; then it asks for sector 16.
// Registers 8, 9 and 11 are what the disk tells, then the program stands, behind 20 steps.
func diskProgram() string {
	return far(code(lui(5, 0x10001000), here(6), addi(6, 6, 0x7c),
		addi(7, 0, 5), sd(7, 5, 0), sd(6, 5, 8), addi(7, 0, 2), sd(7, 5, 0x10), ld(8, 5, 0x18),
		addi(6, 6, 0x80), sd(6, 5, 8), addi(7, 0, 1), sd(7, 5, 0x10), ld(9, 5, 0x18), ld(10, 5, 0x18),
		addi(7, 0, 16), sd(7, 5, 0), addi(7, 0, 1), sd(7, 5, 0x10), ld(11, 5, 0x18), still), 32, sector[:64])
}

// mirror: sends each frame back: six steps, then two a look, and six with a frame (the fifth sends it), which lies at
// 80000100.
func mirror() string {
	return code(lui(5, 0x10002000), here(6), addi(6, 6, 0xfc), sd(6, 5, 8), addi(8, 0, 1), addi(9, 0, 2),
		ld(7, 5, 0), branch(0, 7, 0, -4), sd(8, 5, 0x10), sd(7, 5, 0x18), sd(9, 5, 0x10), jump(-20))
}

// ticks: the clock interrupts at the counts 20, 50, 80 ..; each time a T is sent with the fourth step, the first one being
// the interrupt.
func ticks() string {
	return far(code(lui(5, 0x2004000), here(6), addi(6, 6, 0x3c), setCsr(0x305, 6),
		addi(7, 0, 20), sd(7, 5, 0), addi(8, 0, 0x80), setCsr(0x304, 8), setBits(0x300, 8), still), 16,
		code(lui(9, 0x10000000), addi(10, 0, 'T'), sb(10, 9, 0), ld(7, 5, 0), addi(7, 7, 30), sd(7, 5, 0), mret))
}

// called: the serial line interrupts: 17 steps, then two a look, which does nothing; six with a byte, the first of them
// being the interrupt, the fourth sends it.
func called() string {
	return far(code(here(5), addi(5, 5, 0x80), setCsr(0x305, 5),
		lui(6, 0xc000000), addi(7, 0, 1), sw(7, 6, 4), lui(8, 0xc002000), addi(7, 0, 2), sw(7, 8, 0),
		lui(9, 0x10000000), addi(7, 0, 1), sb(7, 9, 1), lui(7, 0x1000), addi(7, 7, -2048), setCsr(0x304, 7),
		lui(10, 0xc200000), setBits(0x300, 8), 0x10500073, jump(-4)), 32,
		code(lw(11, 10, 4), lbu(12, 9, 0), sb(12, 9, 0), sw(11, 10, 4), mret))
}

// asked: goes to the lowest mode, which calls again and again; each call is counted in register 8, and sends U: six steps,
// then seven a call, of which the fifth sends.
func asked() string {
	return far(code(here(5), addi(5, 5, 0x40), setCsr(0x305, 5), addi(6, 5, 0x40), setCsr(0x341, 6), mret), 16,
		code(lui(9, 0x10000000), addi(8, 8, 1), addi(10, 0, 'U'), sb(10, 9, 0), setCsr(0x341, 6), mret)) +
		strings.Repeat("\x00", 128-64-24) + code(0x73)
}

// talker: sends x without an end: two steps, then two a record, the first of them sending.
func talker() string {
	return code(lui(5, 0x10000000), addi(6, 0, 'x'), sb(6, 5, 0), jump(-4))
}

// programs: by their names, all within a leaf.
func programs() map[string]string {
	return map[string]string{
		"nothing": "", "still": code(still), "echo": echo, "squares": squares(), "disk": diskProgram(), "mirror": mirror(),
		"ticks": ticks(), "called": called(), "asked": asked(), "talker": talker(),
	}
}

// names: the programs', in order.
func names() []string {
	return []string{"nothing", "still", "echo", "squares", "disk", "mirror", "ticks", "called", "asked", "talker"}
}

// anyProgram: by chance: it reads and writes devices and memory, is interrupted, and begins again.
func anyProgram(r *rand.Rand) string {
	start := []uint32{here(5), addi(5, 5, 0x2c), setCsr(0x305, 5), lui(6, 0x10000000), lui(7, 0x10001000), lui(8, 0x10002000),
		lui(9, 0x2004000), lui(10, 0xc000000), addi(11, 5, 0x154), lui(12, 0x10000), addi(12, 12, -1366)}
	list := append(start, setCsr(0x304, 12))
	value := func() uint32 { return uint32(13 + r.Intn(6)) }
	for range 40 {
		var w uint32
		switch r.Intn(14) {
		case 0:
			w = addi(value(), value(), r.Intn(4096))
		case 1:
			w = addi(value(), 0, r.Intn(4))
		case 2:
			w = add(value(), value(), value())
		case 3:
			w = mul(value(), value(), value())
		case 4, 5:
			w = store(uint32(r.Intn(4)), value(), 11, r.Intn(200))
		case 6:
			w = load(uint32(r.Intn(7)), value(), 11, r.Intn(200))
		case 7, 8:
			w = []uint32{sb(value(), 6, 0), sb(value(), 6, 1), lbu(value(), 6, 0), lbu(value(), 6, 5)}[r.Intn(4)]
		case 9:
			w = []uint32{sd(11, 7, 8), sd(11, 8, 8), sd(value(), 9, 0), ld(value(), 7, 0x18), ld(value(), 8, 0)}[r.Intn(5)]
		case 10, 11:
			w = sd(value(), uint32(7+r.Intn(2)), []int{0x10, 0x18, 0}[r.Intn(3)])
		case 12:
			w = []uint32{sw(value(), 10, 4), lw(value(), 10, 4), setBits(0x300, 8), csr(2, 0xc00, 0, value())}[r.Intn(4)]
		case 13:
			w = branch(uint32(r.Intn(2)), value(), value(), 8)
		}
		list = append(list, w)
	}
	return code(append(list, jump(-4*(40)))...)
}

// anyInputs: so many that may be, by chance.
func anyInputs(r *rand.Rand, n int) []api.Input {
	var list []api.Input
	for range n {
		list = append(list, api.Input{ID: r.Uint64(), Gap: 1 + r.Intn(64), Dev: 1 + r.Intn(2), Data: pattern(1+r.Intn(64), r.Int63())})
	}
	return list
}

// anyMachine: a right one by chance, with such a program.
func anyMachine(r *rand.Rand) api.Machine {
	m := busy(anyProgram(r), 2+r.Intn(3))
	m.Hart.C = api.Csr{Mstatus: uint64(r.Intn(2)) << 3, Mtvec: base}
	m.Board.In = pattern(r.Intn(40), r.Int63())
	m.Board.Frames = frames(r.Intn(5), 1+r.Intn(64))
	m.Board.Plic.Claimed = uint32(r.Intn(8)) * 2
	m.Board.Cmp = uint64(r.Intn(2000))
	if r.Intn(4) == 0 {
		m.Outs = nil
	}
	return m
}

// told: what the records say, one a word.
func told(list []api.Record) string {
	var words []string
	for _, r := range list {
		quoted := strconv.Quote(r.Bytes)
		words = append(words, fmt.Sprintf("%d:%d:%s", r.Num, r.Dev, quoted[1:len(quoted)-1]))
	}
	return strings.Join(words, " ")
}
