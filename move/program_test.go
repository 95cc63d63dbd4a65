package move

import (
	"math/rand"
	"strings"

	"tandem/api"
)

// still: a jump on the spot.
const still = 0x6f

const mret = 0x30200073

func code(words ...uint32) string {
	var b []byte
	for _, w := range words {
		b = append(b, byte(w), byte(w>>8), byte(w>>16), byte(w>>24))
	}
	return string(b)
}

// The instructions: registers by their numbers.
func lui(rd uint32, n uint32) uint32       { return n&^0xfff | rd<<7 | 0x37 }
func here(rd uint32) uint32                { return rd<<7 | 0x17 }
func addi(rd, rs uint32, n int) uint32     { return uint32(n)<<20 | rs<<15 | rd<<7 | 0x13 }
func andi(rd, rs uint32, n int) uint32     { return uint32(n)<<20 | rs<<15 | 7<<12 | rd<<7 | 0x13 }
func load(f3, rd, rs uint32, n int) uint32 { return uint32(n)<<20 | rs<<15 | f3<<12 | rd<<7 | 0x03 }
func csr(f3, num, value, rd uint32) uint32 { return num<<20 | value<<15 | f3<<12 | rd<<7 | 0x73 }
func swap(v, at, rd uint32) uint32         { return 1<<27 | v<<20 | at<<15 | 3<<12 | rd<<7 | 0x2f }
func store(f3, v, rs uint32, n int) uint32 {
	return uint32(n)>>5&127<<25 | v<<20 | rs<<15 | f3<<12 | uint32(n)&31<<7 | 0x23
}
func branch(f3, a, b uint32, n int) uint32 {
	d := uint32(n)
	return d>>12&1<<31 | d>>5&63<<25 | b<<20 | a<<15 | f3<<12 | d>>1&15<<8 | d>>11&1<<7 | 0x63
}
func jump(n int) uint32 {
	d := uint32(n)
	return d>>20&1<<31 | d>>1&0x3ff<<21 | d>>11&1<<20 | d>>12&0xff<<12 | 0x6f
}

func lbu(rd, rs uint32, n int) uint32 { return load(4, rd, rs, n) }
func ld(rd, rs uint32, n int) uint32  { return load(3, rd, rs, n) }
func sb(v, rs uint32, n int) uint32   { return store(0, v, rs, n) }
func sw(v, rs uint32, n int) uint32   { return store(2, v, rs, n) }
func sd(v, rs uint32, n int) uint32   { return store(3, v, rs, n) }
func setCsr(num, rs uint32) uint32    { return csr(1, num, rs, 0) }
func setBits(num, n uint32) uint32    { return csr(6, num, n, 0) }

// once: writes an M at 80000100 with the third step, then stands.
func once() string { return code(here(5), addi(6, 0, 'M'), sb(6, 5, 256), still) }

// one: writes 1, 2, 3 .. at 80000100: two steps, then three a number.
func one() string { return code(here(5), addi(5, 5, 256), addi(6, 6, 1), sd(6, 5, 0), jump(-8)) }

// across: likewise, but at 800001fc, so that each number lies in two leaves.
func across() string { return code(here(5), addi(5, 5, 0x1fc), addi(6, 6, 1), sd(6, 5, 0), jump(-8)) }

// swaps: likewise, at 80000208, by an atomic operation, each number being the one there.
func swaps() string { return code(here(5), addi(5, 5, 0x208), addi(6, 6, 1), swap(6, 5, 7), jump(-8)) }

// many: writes 1, 2, 3 .. into the leaves from 1 on, one behind the other: three steps, then four a leaf; behind the last
// one a trap, by which it begins anew.
func many() string {
	return code(here(5), setCsr(0x305, 5), addi(5, 5, 256), addi(6, 6, 1), sd(6, 5, 0), addi(5, 5, 256), jump(-12))
}

// echo: sends each byte of the serial line back: a step, then three a look, and six with a byte (the fifth sends it).
func echo() string {
	return code(lui(5, 0x10000000), lbu(6, 5, 5), andi(6, 6, 1), branch(0, 6, 0, -8), lbu(6, 5, 0), sb(6, 5, 0), jump(-20))
}

// keeps: writes each byte of the serial line into memory, from 80000100 on: three steps, then three a look, and seven with
// a byte (the fifth writes it).
func keeps() string {
	return code(here(8), addi(8, 8, 256), lui(5, 0x10000000),
		lbu(6, 5, 5), andi(6, 6, 1), branch(0, 6, 0, -8), lbu(6, 5, 0), sb(6, 8, 0), addi(8, 8, 1), jump(-24))
}

// sector: what the disk program writes into sector 5.
const sector = "a sector's bytes, which are sixty-four, are laid at 80000080: .."

// diskProgram: writes the 64 bytes at 80000080 into sector 5 with the eighth step, and reads them to 80000100 with the
// 13th; then it stands.
func diskProgram() string {
	first := code(lui(5, 0x10001000), here(6), addi(6, 6, 0x7c),
		addi(7, 0, 5), sd(7, 5, 0), sd(6, 5, 8), addi(7, 0, 2), sd(7, 5, 0x10), ld(8, 5, 0x18),
		addi(6, 6, 0x80), sd(6, 5, 8), addi(7, 0, 1), sd(7, 5, 0x10), still)
	return first + strings.Repeat("\x00", 128-len(first)) + sector
}

// mirror: sends each frame back: six steps, then two a look, and six with a frame (the third lays it at 80000100, the
// fifth sends it).
func mirror() string {
	return code(lui(5, 0x10002000), here(6), addi(6, 6, 0xfc), sd(6, 5, 8), addi(8, 0, 1), addi(9, 0, 2),
		ld(7, 5, 0), branch(0, 7, 0, -4), sd(8, 5, 0x10), sd(7, 5, 0x18), sd(9, 5, 0x10), jump(-20))
}

// ticks: the clock interrupts at the counts 20, 50, 80 ..; each time a T is sent with the fourth step, the first one being
// the interrupt.
func ticks() string {
	first := code(lui(5, 0x2004000), here(6), addi(6, 6, 0x3c), setCsr(0x305, 6),
		addi(7, 0, 20), sd(7, 5, 0), addi(8, 0, 0x80), setCsr(0x304, 8), setBits(0x300, 8), still)
	return first + strings.Repeat("\x00", 64-len(first)) +
		code(lui(9, 0x10000000), addi(10, 0, 'T'), sb(10, 9, 0), ld(7, 5, 0), addi(7, 7, 30), sd(7, 5, 0), mret)
}

// called: the serial line interrupts: 17 steps, then two a look, which does nothing; with a byte a claim, the byte sent
// back, and the claim given back.
func called() string {
	first := code(here(5), addi(5, 5, 0x80), setCsr(0x305, 5),
		lui(6, 0xc000000), addi(7, 0, 1), sw(7, 6, 4), lui(8, 0xc002000), addi(7, 0, 2), sw(7, 8, 0),
		lui(9, 0x10000000), addi(7, 0, 1), sb(7, 9, 1), lui(7, 0x1000), addi(7, 7, -2048), setCsr(0x304, 7),
		lui(10, 0xc200000), setBits(0x300, 8), 0x10500073, jump(-4))
	return first + strings.Repeat("\x00", 128-len(first)) + code(load(2, 11, 10, 4), lbu(12, 9, 0), sb(12, 9, 0), sw(11, 10, 4), mret)
}

// programs: by their names, all within a leaf.
func programs() map[string]string {
	return map[string]string{
		"nothing": "", "still": code(still), "once": once(), "one": one(), "across": across(), "swaps": swaps(), "many": many(),
		"echo": echo(), "keeps": keeps(), "disk": diskProgram(), "mirror": mirror(), "ticks": ticks(), "called": called(),
	}
}

// names: the programs', in order.
func names() []string {
	return []string{"nothing", "still", "once", "one", "across", "swaps", "many", "echo", "keeps", "disk", "mirror", "ticks", "called"}
}

// anyProgram: by chance: it writes into memory here and there, reads and writes devices, is interrupted, and begins again.
func anyProgram(r *rand.Rand) string {
	list := []uint32{here(5), addi(5, 5, 36), setCsr(0x305, 5), lui(6, 0x10000000), lui(7, 0x10001000), lui(8, 0x10002000),
		addi(9, 5, 512-36), lui(10, 0x2004000), setCsr(0x304, 8)}
	value := func() uint32 { return uint32(13 + r.Intn(6)) }
	device := func() uint32 { return uint32(7 + r.Intn(2)) }
	for range 40 {
		var w uint32
		switch r.Intn(11) {
		case 0:
			w = addi(value(), value(), r.Intn(4096))
		case 1:
			w = addi(value(), 0, r.Intn(4))
		case 2:
			w = csr(2, 0xc00, 0, value())
		case 3, 4, 5:
			w = store(uint32(r.Intn(4)), value(), 9, r.Intn(1500)-250)
		case 6:
			w = []uint32{swap(value(), 9, value()), ld(value(), 9, 0), sd(value(), 10, 0), setBits(0x300, 8)}[r.Intn(4)]
		case 7:
			w = []uint32{sb(value(), 6, 0), sb(value(), 6, 1), lbu(value(), 6, 0), lbu(value(), 6, 5)}[r.Intn(4)]
		case 8:
			w = []uint32{sd(9, 7, 8), sd(9, 8, 8), ld(value(), 7, 0x18), ld(value(), 8, 0)}[r.Intn(4)]
		case 9:
			w = sd(value(), device(), []int{0x10, 0x18, 0}[r.Intn(3)])
		case 10:
			w = branch(uint32(r.Intn(2)), value(), value(), 8)
		}
		list = append(list, w)
	}
	return code(append(list, jump(-4*40))...)
}

// anyInputs: so many that may be, by chance.
func anyInputs(r *rand.Rand, n int) []api.Input {
	var list []api.Input
	for range n {
		list = append(list, api.Input{ID: r.Uint64(), Gap: 1 + r.Intn(64), Dev: 1 + r.Intn(2), Data: pattern(1+r.Intn(64), r.Int63())})
	}
	return list
}
