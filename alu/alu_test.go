package alu

import (
	"math"
	"math/big"
	"math/rand"
	"testing"

	"tandem/api"
)

// A row is an Op told by whole numbers without a limit, apart from the program: it takes the low bits of a and of b,
// with their sign or without, and answers with the low bits of what work makes of them.
type row struct {
	op               int
	size             uint
	signedA, signedB bool
	work             func(size uint, a, b *big.Int) *big.Int
}

const with, without = true, false

// results: the Ops of Do.
var results = []row{
	{api.Add, 64, without, without, plus}, {api.Addi, 64, without, without, plus},
	{api.Sub, 64, without, without, minus},
	{api.Sll, 64, without, without, left}, {api.Slli, 64, without, without, left},
	{api.Srl, 64, without, without, right}, {api.Srli, 64, without, without, right},
	{api.Sra, 64, with, without, right}, {api.Srai, 64, with, without, right},
	{api.Slt, 64, with, with, isBelow}, {api.Slti, 64, with, with, isBelow},
	{api.Sltu, 64, without, without, isBelow}, {api.Sltiu, 64, without, without, isBelow},
	{api.Xor, 64, without, without, xor}, {api.Xori, 64, without, without, xor},
	{api.Or, 64, without, without, or}, {api.Ori, 64, without, without, or},
	{api.And, 64, without, without, and}, {api.Andi, 64, without, without, and},
	{api.Mul, 64, without, without, times},
	{api.Mulh, 64, with, with, upperHalf},
	{api.Mulhsu, 64, with, without, upperHalf},
	{api.Mulhu, 64, without, without, upperHalf},
	{api.Div, 64, with, with, parts}, {api.Divu, 64, without, without, parts},
	{api.Rem, 64, with, with, remains}, {api.Remu, 64, without, without, remains},
	{api.Addw, 32, without, without, plus}, {api.Addiw, 32, without, without, plus},
	{api.Subw, 32, without, without, minus},
	{api.Mulw, 32, without, without, times},
	{api.Sllw, 32, without, without, left}, {api.Slliw, 32, without, without, left},
	{api.Srlw, 32, without, without, right}, {api.Srliw, 32, without, without, right},
	{api.Sraw, 32, with, without, right}, {api.Sraiw, 32, with, without, right},
	{api.Divw, 32, with, with, parts}, {api.Divuw, 32, without, without, parts},
	{api.Remw, 32, with, with, remains}, {api.Remuw, 32, without, without, remains},
}

// branches: the Ops of Branch; 1 where it holds.
var branches = []row{
	{api.Beq, 64, without, without, isSame},
	{api.Bne, 64, without, without, isOther},
	{api.Blt, 64, with, with, isBelow},
	{api.Bge, 64, with, with, isNotBelow},
	{api.Bltu, 64, without, without, isBelow},
	{api.Bgeu, 64, without, without, isNotBelow},
}

// amos: the Ops of Amo.
var amos = []row{
	{api.SwapD, 64, without, without, given}, {api.SwapW, 32, without, without, given},
	{api.AddAD, 64, without, without, plus}, {api.AddAW, 32, without, without, plus},
	{api.XorAD, 64, without, without, xor}, {api.XorAW, 32, without, without, xor},
	{api.AndAD, 64, without, without, and}, {api.AndAW, 32, without, without, and},
	{api.OrAD, 64, without, without, or}, {api.OrAW, 32, without, without, or},
	{api.MinAD, 64, with, with, lesser}, {api.MinAW, 32, with, with, lesser},
	{api.MaxAD, 64, with, with, greater}, {api.MaxAW, 32, with, with, greater},
	{api.MinuAD, 64, without, without, lesser}, {api.MinuAW, 32, without, without, lesser},
	{api.MaxuAD, 64, without, without, greater}, {api.MaxuAW, 32, without, without, greater},
}

// The rows' work.

func plus(_ uint, a, b *big.Int) *big.Int { return new(big.Int).Add(a, b) }

func minus(_ uint, a, b *big.Int) *big.Int { return new(big.Int).Sub(a, b) }

func times(_ uint, a, b *big.Int) *big.Int { return new(big.Int).Mul(a, b) }

func xor(_ uint, a, b *big.Int) *big.Int { return new(big.Int).Xor(a, b) }

func or(_ uint, a, b *big.Int) *big.Int { return new(big.Int).Or(a, b) }

func and(_ uint, a, b *big.Int) *big.Int { return new(big.Int).And(a, b) }

func given(_ uint, _, b *big.Int) *big.Int { return b }

func left(size uint, a, b *big.Int) *big.Int { return new(big.Int).Lsh(a, places(size, b)) }

func right(size uint, a, b *big.Int) *big.Int { return new(big.Int).Rsh(a, places(size, b)) }

func places(size uint, b *big.Int) uint {
	return uint(new(big.Int).Mod(b, big.NewInt(int64(size))).Uint64())
}

func upperHalf(size uint, a, b *big.Int) *big.Int {
	return new(big.Int).Rsh(new(big.Int).Mul(a, b), size)
}

func parts(_ uint, a, b *big.Int) *big.Int {
	if b.Sign() == 0 {
		return big.NewInt(-1)
	}
	return new(big.Int).Quo(a, b)
}

func remains(_ uint, a, b *big.Int) *big.Int {
	if b.Sign() == 0 {
		return a
	}
	return new(big.Int).Rem(a, b)
}

func lesser(_ uint, a, b *big.Int) *big.Int {
	if a.Cmp(b) < 0 {
		return a
	}
	return b
}

func greater(_ uint, a, b *big.Int) *big.Int {
	if a.Cmp(b) > 0 {
		return a
	}
	return b
}

func isBelow(_ uint, a, b *big.Int) *big.Int { return whether(a.Cmp(b) < 0) }

func isNotBelow(_ uint, a, b *big.Int) *big.Int { return whether(a.Cmp(b) >= 0) }

func isSame(_ uint, a, b *big.Int) *big.Int { return whether(a.Cmp(b) == 0) }

func isOther(_ uint, a, b *big.Int) *big.Int { return whether(a.Cmp(b) != 0) }

func whether(holds bool) *big.Int {
	if holds {
		return big.NewInt(1)
	}
	return big.NewInt(0)
}

// lowBits: the low bits of the number, with their sign or without.
func lowBits(n *big.Int, size uint, signed bool) *big.Int {
	all := new(big.Int).Lsh(big.NewInt(1), size)
	n = new(big.Int).Mod(n, all)
	if signed && n.Bit(int(size)-1) == 1 {
		n.Sub(n, all)
	}
	return n
}

// number: the row's answer for a and b, its low bits with their sign or without.
func (r row) number(a, b uint64, signed bool) uint64 {
	x := lowBits(new(big.Int).SetUint64(a), r.size, r.signedA)
	y := lowBits(new(big.Int).SetUint64(b), r.size, r.signedB)
	n := lowBits(r.work(r.size, x, y), r.size, signed)
	return lowBits(n, 64, without).Uint64()
}

// edges: numbers at which something may change.
func edges() []uint64 {
	list := []uint64{5, 6, 7, 10, 0x12345678, 0x87654321, 0x123456789abcdef0, 0xfedcba9876543210}
	for _, n := range []uint64{0, 1 << 5, 1 << 6, 1 << 7, 1 << 8, 1 << 31, 1 << 32, 3 << 31, 1 << 33, 1 << 62, 1 << 63} {
		for d := range uint64(3) {
			list = append(list, n+d-1, -n+d-1)
		}
	}
	// The highest bits of and halves, and what lies between, all ways.
	for _, high := range []uint64{0, 1, 0x7fffffff, 0x80000000, 0xffffffff} {
		for _, low := range []uint64{0, 2, 31, 32, 63, 0x7fffffff, 0x80000000, 0x80000001, 0xffffffff} {
			list = append(list, high<<32|low)
		}
	}
	return append(list, 0x5555555555555555, 0xaaaaaaaaaaaaaaaa, 0xb504f333f9de6484, 3037000499, 3037000500)
}

// eachPair: all pairs of the edges, and pairs by chance, short ones and equal ones among them.
func eachPair(seed int64, do func(a, b uint64)) {
	list := edges()
	for _, a := range list {
		for _, b := range list {
			do(a, b)
		}
	}
	r := rand.New(rand.NewSource(seed))
	for range 4096 {
		a, b := r.Uint64(), r.Uint64()
		do(a, b)
		do(a>>r.Intn(64), b>>r.Intn(64))
		do(-(a >> r.Intn(64)), b>>r.Intn(64))
		do(a>>r.Intn(64), -(b >> r.Intn(64)))
		do(a, a)
	}
}

func wantDo(t *testing.T, op int, a, b, want uint64) {
	t.Helper()
	if n, ok := Do(op, a, b); n != want || !ok {
		t.Errorf("Do(%d, %x, %x): %x, %v, want %x", op, a, b, n, ok, want)
	}
}

func wantBranch(t *testing.T, op int, a, b uint64, want bool) {
	t.Helper()
	if holds, ok := Branch(op, a, b); holds != want || !ok {
		t.Errorf("Branch(%d, %x, %x): %v, %v, want %v", op, a, b, holds, ok, want)
	}
}

func wantAmo(t *testing.T, op int, was, given, want uint64) {
	t.Helper()
	if n, ok := Amo(op, was, given); n != want || !ok {
		t.Errorf("Amo(%d, %x, %x): %x, %v, want %x", op, was, given, n, ok, want)
	}
}

// do: Do's number of an Op that it has.
func do(t *testing.T, op int, a, b uint64) uint64 {
	t.Helper()
	n, ok := Do(op, a, b)
	if !ok {
		t.Fatalf("Do has no Op %d", op)
	}
	return n
}

const (
	least    = 1 << 63
	greatest = 1<<63 - 1
	all      = 1<<64 - 1 // -1, with a sign
	upper32  = all - 1<<32 + 1
)

// P8.1: the chapter's examples.
func TestExamples(t *testing.T) {
	wantDo(t, api.Div, least, all, least)
	wantDo(t, api.Rem, least, all, 0)
	wantDo(t, api.Sraw, 0x80000000, 4, 0xfffffffff8000000)
	wantAmo(t, api.MinAW, 0xffffffff, 1, 0xffffffff)
}

// P8.1: sums, shifts and comparisons, as written down by hand.
func TestKnownSums(t *testing.T) {
	wantDo(t, api.Add, all, 2, 1)
	wantDo(t, api.Addi, 5, 1<<64-6, all)
	wantDo(t, api.Sub, 0, 1, all)
	wantDo(t, api.Sll, 1, 63, least)
	wantDo(t, api.Slli, 1, 64, 1)
	wantDo(t, api.Sll, 3, all, least)
	wantDo(t, api.Srl, least, 63, 1)
	wantDo(t, api.Srli, least, 127, 1)
	wantDo(t, api.Sra, least, 63, all)
	wantDo(t, api.Srai, greatest, 62, 1)
	wantDo(t, api.Slt, all, 0, 1)
	wantDo(t, api.Slti, 0, all, 0)
	wantDo(t, api.Slt, least, greatest, 1)
	wantDo(t, api.Slt, 7, 7, 0)
	wantDo(t, api.Sltu, all, 0, 0)
	wantDo(t, api.Sltiu, 0, all, 1)
	wantDo(t, api.Sltu, 7, 7, 0)
	wantDo(t, api.Xor, 0xff00, 0x0ff0, 0xf0f0)
	wantDo(t, api.Xori, 0xff00, all, 0xffffffffffff00ff)
	wantDo(t, api.Or, 0xff00, 0x0ff0, 0xfff0)
	wantDo(t, api.Ori, 0xff00, all, all)
	wantDo(t, api.And, 0xff00, 0x0ff0, 0x0f00)
	wantDo(t, api.Andi, 0xff00, all, 0xff00)
}

// P8.1: products and quotients, as written down by hand.
func TestKnownProducts(t *testing.T) {
	wantDo(t, api.Mul, all, all, 1)
	wantDo(t, api.Mul, 1<<32, 1<<32, 0)
	wantDo(t, api.Mulh, all, all, 0)
	wantDo(t, api.Mulh, least, least, 1<<62)
	wantDo(t, api.Mulh, all, 1, all)
	wantDo(t, api.Mulhsu, all, all, all)
	wantDo(t, api.Mulhsu, 1, all, 0)
	wantDo(t, api.Mulhsu, least, all, least)
	wantDo(t, api.Mulhu, all, all, all-1)
	wantDo(t, api.Mulhu, 1<<32, 1<<32, 1)
	wantDo(t, api.Div, 1<<64-7, 2, 1<<64-3)
	wantDo(t, api.Div, 7, 1<<64-2, 1<<64-3)
	wantDo(t, api.Div, 1<<64-7, 1<<64-2, 3)
	wantDo(t, api.Rem, 1<<64-7, 2, all)
	wantDo(t, api.Rem, 7, 1<<64-2, 1)
	wantDo(t, api.Rem, 1<<64-7, 1<<64-2, all)
	wantDo(t, api.Divu, all, 2, greatest)
	wantDo(t, api.Remu, all, 16, 15)
	wantDo(t, api.Divu, least, all, 0)
	wantDo(t, api.Remu, least, all, least)
	for _, a := range []uint64{0, 1, all, least, greatest} {
		wantDo(t, api.Div, a, 0, all)
		wantDo(t, api.Divu, a, 0, all)
		wantDo(t, api.Rem, a, 0, a)
		wantDo(t, api.Remu, a, 0, a)
	}
}

// P8.1: the Ops with w, as written down by hand.
func TestKnownWords(t *testing.T) {
	wantDo(t, api.Addw, 0x7fffffff, 1, 0xffffffff80000000)
	wantDo(t, api.Addiw, 0xffffffff, 1, 0)
	wantDo(t, api.Subw, 1<<32, 1, all)
	wantDo(t, api.Mulw, 0x10000, 0x8000, 0xffffffff80000000)
	wantDo(t, api.Mulw, 0x10000, 0x10000, 0)
	wantDo(t, api.Sllw, 1, 31, 0xffffffff80000000)
	wantDo(t, api.Slliw, 1, 32, 1)
	wantDo(t, api.Srlw, all, 31, 1)
	wantDo(t, api.Srlw, all, 32, all)
	wantDo(t, api.Srliw, 0xf80000000, 4, 0x8000000)
	wantDo(t, api.Sraw, 0xf80000000, 63, all)
	wantDo(t, api.Sraiw, 0xff7fffffff, 30, 1)
	wantDo(t, api.Divw, 0x80000000, 0xffffffff, 0xffffffff80000000)
	wantDo(t, api.Remw, 0x80000000, 0xffffffff, 0)
	wantDo(t, api.Divw, 0x1fffffff9, 2, 1<<64-3)
	wantDo(t, api.Remw, 0x1fffffff9, 2, all)
	wantDo(t, api.Divuw, 0x80000000, 0xffffffff, 0)
	wantDo(t, api.Remuw, 0x80000000, 0xffffffff, 0xffffffff80000000)
	wantDo(t, api.Divuw, all, 1, all)
	wantDo(t, api.Divuw, all, 2, 0x7fffffff)
	for _, b := range []uint64{0, 1 << 32, upper32} {
		wantDo(t, api.Divw, 7, b, all)
		wantDo(t, api.Divuw, 7, b, all)
		wantDo(t, api.Remw, 0x180000001, b, 0xffffffff80000001)
		wantDo(t, api.Remuw, 0x180000001, b, 0xffffffff80000001)
	}
}

// P8.1: the branches, as written down by hand.
func TestKnownBranches(t *testing.T) {
	for _, x := range []struct {
		a, b                         uint64
		eq, ne, lt, ge, below, above bool
	}{
		{7, 7, true, false, false, true, false, true},
		{7, 8, false, true, true, false, true, false},
		{8, 7, false, true, false, true, false, true},
		{all, 0, false, true, true, false, false, true},
		{0, all, false, true, false, true, true, false},
		{least, greatest, false, true, true, false, false, true},
		{0, 1 << 32, false, true, true, false, true, false},
	} {
		wantBranch(t, api.Beq, x.a, x.b, x.eq)
		wantBranch(t, api.Bne, x.a, x.b, x.ne)
		wantBranch(t, api.Blt, x.a, x.b, x.lt)
		wantBranch(t, api.Bge, x.a, x.b, x.ge)
		wantBranch(t, api.Bltu, x.a, x.b, x.below)
		wantBranch(t, api.Bgeu, x.a, x.b, x.above)
	}
}

// P8.1: what atomic operations write back, as written down by hand.
func TestKnownAmos(t *testing.T) {
	wantAmo(t, api.SwapD, 1, all, all)
	wantAmo(t, api.AddAD, all, 3, 2)
	wantAmo(t, api.XorAD, 0xff00, 0x0ff0, 0xf0f0)
	wantAmo(t, api.AndAD, 0xff00, 0x0ff0, 0x0f00)
	wantAmo(t, api.OrAD, 0xff00, 0x0ff0, 0xfff0)
	wantAmo(t, api.MinAD, all, 1, all)
	wantAmo(t, api.MaxAD, all, 1, 1)
	wantAmo(t, api.MinuAD, all, 1, 1)
	wantAmo(t, api.MaxuAD, all, 1, all)
	wantAmo(t, api.SwapW, 1, all, 0xffffffff)
	wantAmo(t, api.AddAW, 0xffffffff, 0x100000000, 0xffffffff)
	wantAmo(t, api.AddAW, 0xffffffff, 1, 0)
	wantAmo(t, api.XorAW, all, 1, 0xfffffffe)
	wantAmo(t, api.AndAW, all, 0x1f0000000f, 0xf)
	wantAmo(t, api.OrAW, 0x1f00000000, 0x80000000, 0x80000000)
	wantAmo(t, api.MinAW, 0x80000000, 0x17fffffff, 0x80000000)
	wantAmo(t, api.MaxAW, 0x80000000, 0x17fffffff, 0x7fffffff)
	wantAmo(t, api.MinuAW, 0x80000000, 0x17fffffff, 0x7fffffff)
	wantAmo(t, api.MaxuAW, 0x80000000, 0x17fffffff, 0x80000000)
}

// P8.1: Do of many numbers, held against the rows.
func TestDo(t *testing.T) {
	for i, r := range results {
		eachPair(810+int64(i), func(a, b uint64) { wantDo(t, r.op, a, b, r.number(a, b, with)) })
	}
}

// P8.1: Branch of many numbers, held against the rows.
func TestBranch(t *testing.T) {
	for i, r := range branches {
		eachPair(860+int64(i), func(a, b uint64) { wantBranch(t, r.op, a, b, r.number(a, b, without) == 1) })
	}
}

// P8.1: Amo of many numbers, held against the rows.
func TestAmo(t *testing.T) {
	for i, r := range amos {
		eachPair(880+int64(i), func(a, b uint64) { wantAmo(t, r.op, a, b, r.number(a, b, without)) })
	}
}

// P8.1: shifts by all numbers of places, and by more than there are.
func TestShifts(t *testing.T) {
	for _, a := range edges() {
		for places := range uint64(64) {
			for _, b := range []uint64{places, places | 1<<6, places | 1<<32, places | least, places | (all - 63)} {
				wantDo(t, api.Sll, a, b, a<<(b%64))
				wantDo(t, api.Slli, a, b, a<<(b%64))
				wantDo(t, api.Srl, a, b, a>>(b%64))
				wantDo(t, api.Srli, a, b, a>>(b%64))
				wantDo(t, api.Sra, a, b, uint64(int64(a)>>(b%64)))
				wantDo(t, api.Srai, a, b, uint64(int64(a)>>(b%64)))
				wantDo(t, api.Sllw, a, b, uint64(int32(uint32(a)<<(b%32))))
				wantDo(t, api.Slliw, a, b, uint64(int32(uint32(a)<<(b%32))))
				wantDo(t, api.Srlw, a, b, uint64(int32(uint32(a)>>(b%32))))
				wantDo(t, api.Srliw, a, b, uint64(int32(uint32(a)>>(b%32))))
				wantDo(t, api.Sraw, a, b, uint64(int32(a)>>(b%32)))
				wantDo(t, api.Sraiw, a, b, uint64(int32(a)>>(b%32)))
			}
		}
	}
}

// P8.1: the low 32 bits with their sign.
func TestWord(t *testing.T) {
	for _, x := range []struct{ n, want uint64 }{
		{0, 0}, {1, 1}, {0x7fffffff, 0x7fffffff}, {0x80000000, 0xffffffff80000000}, {0xffffffff, all}, {1 << 32, 0},
		{0xffffffff7fffffff, 0x7fffffff}, {all, all}, {least, 0}, {0x180000001, 0xffffffff80000001},
	} {
		if n := Word(x.n); n != x.want {
			t.Errorf("Word(%x): %x, want %x", x.n, n, x.want)
		}
	}
	eachPair(800, func(a, _ uint64) {
		want := lowBits(lowBits(new(big.Int).SetUint64(a), 32, with), 64, without).Uint64()
		if n := Word(a); n != want {
			t.Errorf("Word(%x): %x, want %x", a, n, want)
		}
	})
}

// has: is the Op in one of the rows?
func has(rows []row, op int) bool {
	for _, r := range rows {
		if r.op == op {
			return true
		}
	}
	return false
}

// wantOps: each call takes its own Ops, and tells nothing of the others.
func wantOps(t *testing.T, op int, a, b uint64) {
	t.Helper()
	if n, ok := Do(op, a, b); ok != has(results, op) || !ok && n != 0 {
		t.Errorf("Do(%d, %x, %x): %x, %v", op, a, b, n, ok)
	}
	if holds, ok := Branch(op, a, b); ok != has(branches, op) || !ok && holds {
		t.Errorf("Branch(%d, %x, %x): %v, %v", op, a, b, holds, ok)
	}
	if n, ok := Amo(op, a, b); ok != has(amos, op) || !ok && n != 0 {
		t.Errorf("Amo(%d, %x, %x): %x, %v", op, a, b, n, ok)
	}
}

// P8.1 and P1 of DOC.md: an Op of another call, one that isn't there, and one that can't be, have no answer.
func TestOtherOps(t *testing.T) {
	ops := []int{math.MinInt, math.MinInt + 1, math.MinInt32, math.MaxInt32, math.MaxInt - 1, math.MaxInt}
	for op := -1024; op <= 1024; op++ {
		ops = append(ops, op)
	}
	// Ops that have the low bits of one that is there.
	for op := range 256 {
		ops = append(ops, op+1<<32, op-1<<32, op+1<<16, op+1<<40)
	}
	numbers := []uint64{0, 1, 2, least, greatest, all, 0x80000000}
	for _, op := range ops {
		for _, a := range numbers {
			for _, b := range numbers {
				wantOps(t, op, a, b)
			}
		}
	}
}

// P8.1: the loads and the stores of a reservation, the jumps and the control registers are no Op of these calls.
func TestNoneOfThese(t *testing.T) {
	for _, op := range []int{
		api.Lui, api.Auipc, api.Jal, api.Jalr, api.Lb, api.Ld, api.Sb, api.Sd, api.Fence, api.Ecall, api.Csrrw, api.Csrrci,
		api.LrW, api.ScW, api.LrD, api.ScD, api.Mret, api.Sret, api.Wfi, api.Sfence,
	} {
		if has(results, op) || has(branches, op) || has(amos, op) {
			t.Errorf("the rows have the Op %d", op)
		}
		wantOps(t, op, 6, 7)
	}
	if len(results)+len(branches)+len(amos) != 65 {
		t.Error("the rows don't have all Ops")
	}
}

// P8.2: b times the quotient and the rest together are a; the rest is less than b.
func TestDivided(t *testing.T) {
	eachPair(820, func(a, b uint64) {
		if a == 0 || b == 0 {
			return
		}
		n, r := do(t, api.Div, a, b), do(t, api.Rem, a, b)
		if b*n+r != a {
			t.Errorf("Div and Rem of %x and %x: %x and %x", a, b, n, r)
		}
		if r != 0 && r>>63 != a>>63 {
			t.Errorf("Rem of %x and %x: %x has another sign than the first", a, b, r)
		}
		n, r = do(t, api.Divu, a, b), do(t, api.Remu, a, b)
		if b*n+r != a || r >= b {
			t.Errorf("Divu and Remu of %x and %x: %x and %x", a, b, n, r)
		}
	})
}

// P8.3: the upper half of the product, and what the signs take from it.
func TestUpperHalf(t *testing.T) {
	eachPair(830, func(a, b uint64) {
		product := new(big.Int).Mul(new(big.Int).SetUint64(a), new(big.Int).SetUint64(b))
		n := product.Rsh(product, 64).Uint64()
		wantDo(t, api.Mulhu, a, b, n)
		if int64(a) < 0 {
			n -= b
		}
		wantDo(t, api.Mulhsu, a, b, n)
		if int64(b) < 0 {
			n -= a
		}
		wantDo(t, api.Mulh, a, b, n)
	})
}

// P8.4: what an Op with w tells is Word of itself, and the upper halves change nothing.
func TestWords(t *testing.T) {
	r := rand.New(rand.NewSource(841))
	for i, w := range results {
		if w.size != 32 {
			continue
		}
		eachPair(842+int64(i), func(a, b uint64) {
			n := do(t, w.op, a, b)
			if n != Word(n) {
				t.Errorf("Do(%d, %x, %x): %x isn't Word of itself", w.op, a, b, n)
			}
			for _, high := range []uint64{0, upper32, r.Uint64() << 32} {
				wantDo(t, w.op, uint64(uint32(a))|high, b, n)
				wantDo(t, w.op, a, uint64(uint32(b))|high, n)
			}
		})
	}
}

// The low 32 bits alone count for the atomic Ops with W too, and what they write back has no sign.
func TestAmoWords(t *testing.T) {
	r := rand.New(rand.NewSource(845))
	for i, w := range amos {
		if w.size != 32 {
			continue
		}
		eachPair(846+int64(i), func(was, given uint64) {
			n, _ := Amo(w.op, was, given)
			if n>>32 != 0 {
				t.Errorf("Amo(%d, %x, %x): %x has more than 32 bits", w.op, was, given, n)
			}
			wantAmo(t, w.op, was^r.Uint64()<<32, given^r.Uint64()<<32, n)
		})
	}
}

// P1 of DOC.md: the calls hang on their arguments alone.
func TestAsksNothingElse(t *testing.T) {
	type call struct {
		op   int
		a, b uint64
	}
	type answer struct {
		done, written         uint64
		holds                 bool
		isDo, isBranch, isAmo bool
		first, second         uint64
	}
	ask := func(c call) (x answer) {
		x.done, x.isDo = Do(c.op, c.a, c.b)
		x.holds, x.isBranch = Branch(c.op, c.a, c.b)
		x.written, x.isAmo = Amo(c.op, c.a, c.b)
		x.first, x.second = Word(c.a), Word(c.b)
		return x
	}
	r := rand.New(rand.NewSource(851))
	var list []call
	var first []answer
	for range 4096 {
		c := call{r.Intn(128), r.Uint64(), r.Uint64() >> r.Intn(64)}
		list, first = append(list, c), append(first, ask(c))
	}
	for i := len(list) - 1; i >= 0; i-- {
		if x := ask(list[i]); x != first[i] {
			t.Errorf("%+v: %+v, and before %+v", list[i], x, first[i])
		}
	}
}
