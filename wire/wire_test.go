package wire

import (
	"encoding/binary"
	"hash/crc32"
	"math/rand"
	"slices"
	"strings"
	"testing"

	"tandem/api"
)

// noughts: so many bytes 0.
func noughts(n int) string { return strings.Repeat("\x00", n) }

// four: a number as the chapter's short, made apart from the program.
func four(n int) string {
	return string(binary.LittleEndian.AppendUint32(nil, uint32(n)))
}

// frame: a frame by the chapter's words, made apart from the program and without its limits.
func frame(s string) string {
	sum := crc32.ChecksumIEEE([]byte(four(len(s)) + s))
	return four(len(s)) + four(int(sum)) + s + "\xff"
}

// someBytes: bytes among which noughts and bytes ff are common.
func someBytes(r *rand.Rand, most int) string {
	b := make([]byte, r.Intn(most+1))
	for i := range b {
		switch r.Intn(4) {
		case 0:
		case 1:
			b[i] = 0xff
		default:
			b[i] = byte(r.Intn(256))
		}
	}
	return string(b)
}

func someFields(r *rand.Rand, most int) []string {
	fields := make([]string, r.Intn(most+1))
	for i := range fields {
		fields[i] = someBytes(r, 20)
	}
	return fields
}

func wantPack(t *testing.T, what string, fields []string) {
	t.Helper()
	want := four(len(fields))
	for _, f := range fields {
		want += four(len(f)) + f
	}
	got, e := Pack(fields...)
	if e != api.OK || got != want {
		t.Fatalf("Pack of %s: error %d, %d bytes; want %d bytes", what, e, len(got), len(want))
	}
	back, e := Unpack(got)
	if e != api.OK || !slices.Equal(back, fields) {
		t.Fatalf("Unpack of Pack of %s: error %d, %d fields; want %d", what, e, len(back), len(fields))
	}
}

func wantNoPack(t *testing.T, what string, fields []string) {
	t.Helper()
	if got, e := Pack(fields...); e != api.ErrLong || got != "" {
		t.Errorf("Pack of %s: error %d, %d bytes; want error 2 alone", what, e, len(got))
	}
}

func wantNoUnpack(t *testing.T, what, s string) {
	t.Helper()
	if got, e := Unpack(s); e != api.ErrBytes || len(got) != 0 {
		t.Errorf("Unpack of %s: error %d, %d fields; want error 3 alone", what, e, len(got))
	}
}

func wantScan(t *testing.T, what, s string, want []string, size int) {
	t.Helper()
	got, n := Scan(s)
	if !slices.Equal(got, want) || n != size {
		t.Fatalf("Scan of %s: %d strings, %d bytes; want %d, %d", what, len(got), n, len(want), size)
	}
}

// P1.1, P1.2.
func TestNum(t *testing.T) {
	if got := Num(258); got != "\x02\x01\x00\x00\x00\x00\x00\x00" {
		t.Errorf("Num(258): %x", got)
	}
	if got := Num(0x8877665544332211); got != "\x11\x22\x33\x44\x55\x66\x77\x88" {
		t.Errorf("Num of eight bytes: %x", got)
	}
	numbers := []uint64{0, 1, 255, 256, 1<<31 - 1, 1 << 31, 1 << 32, 1<<63 - 1, 1 << 63, 1<<64 - 1}
	for i := range 64 {
		numbers = append(numbers, 1<<i)
	}
	r := rand.New(rand.NewSource(1))
	for range 200 {
		numbers = append(numbers, r.Uint64())
	}
	for _, n := range numbers {
		s := Num(n)
		if s != string(binary.LittleEndian.AppendUint64(nil, n)) {
			t.Errorf("Num(%d): %x", n, s)
		}
		if got, e := ReadNum(s); got != n || e != api.OK {
			t.Errorf("ReadNum(Num(%d)): %d, error %d", n, got, e)
		}
	}
}

// P1.1, P1.2: any eight bytes are a number's, no others are.
func TestReadNum(t *testing.T) {
	r := rand.New(rand.NewSource(2))
	for range 200 {
		b := make([]byte, 8)
		r.Read(b)
		got, e := ReadNum(string(b))
		if e != api.OK || got != binary.LittleEndian.Uint64(b) || Num(got) != string(b) {
			t.Errorf("ReadNum(%x): %d, error %d", b, got, e)
		}
	}
	for n := range 33 {
		if n == 8 {
			continue
		}
		if got, e := ReadNum(strings.Repeat("\xff", n)); got != 0 || e != api.ErrBytes {
			t.Errorf("ReadNum of %d bytes: %d, error %d", n, got, e)
		}
	}
}

// P1.1, P1.2.
func TestPack(t *testing.T) {
	got, e := Pack("a", "")
	if got != "\x02\x00\x00\x00\x01\x00\x00\x00a\x00\x00\x00\x00" || e != api.OK {
		t.Errorf("Pack(a, nothing): %x, error %d", got, e)
	}
	if got, e := Pack(); got != noughts(4) || e != api.OK {
		t.Errorf("Pack(): %x, error %d", got, e)
	}
	wantPack(t, "no fields", nil)
	wantPack(t, "one field of nothing", []string{""})
	wantPack(t, "noughts", []string{noughts(4), "", noughts(8)})
	wantPack(t, "300 bytes", []string{strings.Repeat("x", 300), "y"})
	r := rand.New(rand.NewSource(3))
	for range 300 {
		wantPack(t, "some fields", someFields(r, 12))
	}
}

// P1.1: just at MaxFields, MaxField and MaxBytes, and one more.
func TestPackLimits(t *testing.T) {
	wantPack(t, "1024 fields", make([]string, api.MaxFields))
	wantNoPack(t, "1025 fields", make([]string, api.MaxFields+1))

	full := strings.Repeat("x", api.MaxField)
	wantPack(t, "a field of 2^17 bytes", []string{full})
	wantPack(t, "a last field of 2^17 bytes", []string{"", full})
	wantNoPack(t, "a field of 2^17 + 1 bytes", []string{full + "x"})
	wantNoPack(t, "a last field of 2^17 + 1 bytes", []string{"", full + "x"})

	// Seven full fields and an eighth; four bytes for the count, four for each length.
	left := api.MaxBytes - 7*api.MaxField - 4 - 8*4
	seven := slices.Repeat([]string{full}, 7)
	wantPack(t, "2^20 bytes in all", append(slices.Clone(seven), full[:left]))
	wantNoPack(t, "2^20 + 1 bytes in all", append(slices.Clone(seven), full[:left+1]))
	wantNoPack(t, "2^20 + 4 bytes in all, the last field of nothing", append(slices.Clone(seven), full[:left], ""))
	wantNoPack(t, "1024 full fields", slices.Repeat([]string{full}, api.MaxFields))
}

// P1.1, P1.2: what is no Pack is refused.
func TestUnpackRefuses(t *testing.T) {
	for n := range 4 {
		wantNoUnpack(t, "fewer than four bytes", noughts(n))
	}
	wantNoUnpack(t, "a byte behind no fields", noughts(5))
	wantNoUnpack(t, "a field too few", four(2)+four(1)+"a")
	wantNoUnpack(t, "a field too many", four(1)+four(1)+"a"+four(1)+"b")
	wantNoUnpack(t, "half a length", four(1)+"\x01\x00")
	wantNoUnpack(t, "a length above what is left", four(1)+four(2)+"a")
	wantNoUnpack(t, "the greatest length", four(1)+"\xff\xff\xff\xffa")
	wantNoUnpack(t, "a length of 2^31", four(1)+"\x00\x00\x00\x80a")
	wantNoUnpack(t, "the greatest count", "\xff\xff\xff\xff")
	wantNoUnpack(t, "the greatest count and fields", "\xff\xff\xff\xff"+noughts(4096))
	wantNoUnpack(t, "a count of 2^31", "\x00\x00\x00\x80")
	wantNoUnpack(t, "1025 fields", four(api.MaxFields+1)+noughts(4*(api.MaxFields+1)))

	full := strings.Repeat("x", api.MaxField)
	wantNoUnpack(t, "a field of 2^17 + 1 bytes", four(1)+four(len(full)+1)+full+"x")
	long := four(8) + strings.Repeat(four(len(full))+full, 7)
	left := api.MaxBytes - len(long) - 4
	wantNoUnpack(t, "2^20 + 1 bytes", long+four(left+1)+full[:left+1])
}

// P1.2: every byte of a Pack counts; what is taken is Pack of what is told.
func TestUnpackTakesPacksAlone(t *testing.T) {
	r := rand.New(rand.NewSource(4))
	taken := 0
	for range 400 {
		s, _ := Pack(someFields(r, 4)...)
		for n := range len(s) {
			wantNoUnpack(t, "a beginning of a Pack", s[:n])
		}
		wantNoUnpack(t, "a byte more", s+"\x00")
		b := []byte(s)
		b[r.Intn(len(b))] ^= byte(1 + r.Intn(7))
		fields, e := Unpack(string(b))
		if e != api.OK {
			if e != api.ErrBytes || len(fields) != 0 {
				t.Errorf("Unpack of a changed Pack: error %d, %d fields", e, len(fields))
			}
			continue
		}
		taken++
		if again, e := Pack(fields...); again != string(b) || e != api.OK {
			t.Errorf("Pack of Unpack of %x: %x, error %d", b, again, e)
		}
	}
	if taken == 0 {
		t.Error("no changed Pack was taken: the test shows nothing")
	}
}

// P1.1.
func TestSum(t *testing.T) {
	for _, c := range []struct {
		parts []string
		want  uint32
	}{
		{nil, 0},
		{[]string{""}, 0},
		{[]string{"", ""}, 0},
		{[]string{"1234", "56789"}, 0xcbf43926},
		{[]string{"123456789"}, 0xcbf43926},
		{[]string{noughts(4)}, 0x2144df1c},
		{[]string{"\xff\xff\xff\xff"}, 0xffffffff},
	} {
		if got := Sum(c.parts...); got != c.want {
			t.Errorf("Sum(%q): %x, want %x", c.parts, got, c.want)
		}
	}
	for i := range 256 {
		s := string([]byte{byte(i)})
		if got, want := Sum(s), crc32.ChecksumIEEE([]byte(s)); got != want {
			t.Errorf("Sum of the byte %d: %x, want %x", i, got, want)
		}
	}
	long := strings.Repeat("tandem\x00\xff", api.MaxField/8)
	if got, want := Sum(long), crc32.ChecksumIEEE([]byte(long)); got != want {
		t.Errorf("Sum of %d bytes: %x, want %x", len(long), got, want)
	}
}

// P1.5.
func TestSumOfParts(t *testing.T) {
	r := rand.New(rand.NewSource(5))
	for range 500 {
		parts := someFields(r, 8)
		whole := strings.Join(parts, "")
		if got, want := Sum(parts...), Sum(whole); got != want || want != crc32.ChecksumIEEE([]byte(whole)) {
			t.Errorf("Sum(%q): %x, put together %x", parts, got, want)
		}
	}
	s := "in parts, wherever they are cut"
	for i := range len(s) + 1 {
		for k := i; k <= len(s); k++ {
			if Sum(s[:i], s[i:k], s[k:]) != Sum(s) {
				t.Errorf("Sum of %q cut at %d and %d", s, i, k)
			}
		}
	}
}

// P1.1: frames, just at MaxField, and one more.
func TestFrame(t *testing.T) {
	full := strings.Repeat("x", api.MaxField)
	for _, s := range []string{"", "a", "ab", noughts(1), noughts(300), "\xff", full} {
		got, e := Frame(s)
		if e != api.OK || got != frame(s) {
			t.Errorf("Frame of %d bytes: error %d, %d bytes", len(s), e, len(got))
		}
		wantScan(t, "a frame", got, []string{s}, len(s)+9)
	}
	if got, e := Frame(full + "x"); got != "" || e != api.ErrLong {
		t.Errorf("Frame of 2^17 + 1 bytes: error %d, %d bytes", e, len(got))
	}
}

// P1.1: each of the reasons for which no frame stands at a place, at the beginning and behind a frame.
func TestScanStops(t *testing.T) {
	full := strings.Repeat("x", api.MaxField)
	whole := frame("abc")
	for _, c := range []struct{ what, s string }{
		{"nothing", ""},
		{"eight bytes of the empty frame", frame("")[:8]},
		{"a frame above MaxField", frame(full + "x")},
		{"a length above what is left, by one", whole[:len(whole)-1]},
		{"a length above what is left, and ff at the end", whole[:len(whole)-2] + "\xff"},
		{"the greatest length", "\xff\xff\xff\xff" + whole[4:]},
		{"a length of 2^31", "\x00\x00\x00\x80" + whole[4:]},
		{"a wrong sum", whole[:4] + four(0) + whole[8:]},
		{"a sum without the length", four(1) + four(int(Sum("a"))) + "a\xff"},
		{"a last byte of 0", whole[:len(whole)-1] + "\x00"},
		{"a last byte of fe", whole[:len(whole)-1] + "\xfe"},
	} {
		wantScan(t, c.what, c.s, nil, 0)
		wantScan(t, c.what+" behind a frame", whole+c.s, []string{"abc"}, len(whole))
		if c.s != "" {
			wantScan(t, c.what+" ahead of a frame", c.s+whole, nil, 0)
		}
	}
}

// P1.3: frames, one behind the other, any beginning of them, and any bytes behind them.
func TestScanFrames(t *testing.T) {
	r := rand.New(rand.NewSource(6))
	for range 60 {
		list := someFields(r, 5)
		all, ends := "", []int{0}
		for _, s := range list {
			f, e := Frame(s)
			if e != api.OK {
				t.Fatalf("Frame of %d bytes: error %d", len(s), e)
			}
			all += f
			ends = append(ends, len(all))
		}
		for n := range len(all) + 1 {
			k := 0
			for k < len(list) && ends[k+1] <= n {
				k++
			}
			wantScan(t, "a beginning of frames", all[:n], list[:k], ends[k])
		}
		behind := someBytes(r, 40)
		got, n := Scan(all + behind)
		if len(got) < len(list) || !slices.Equal(got[:len(list)], list) || n < len(all) {
			t.Errorf("Scan of frames with %x behind: %q", behind, got)
		}
	}
}

// P1.3: what Scan tells is the frames that stand there, of any bytes.
func TestScanTellsFrames(t *testing.T) {
	r := rand.New(rand.NewSource(7))
	for range 500 {
		s := someBytes(r, 40)
		if r.Intn(2) == 0 {
			s = frame(someBytes(r, 5)) + s
		}
		list, n := Scan(s)
		put := ""
		for _, one := range list {
			put += frame(one)
		}
		if n != len(put) || s[:n] != put {
			t.Errorf("Scan of %x: %q, %d", s, list, n)
		}
		wantScan(t, "what is behind", s[n:], nil, 0)
	}
}

// P1.4: one byte changed behind the length.
func TestScanOfAChangedFrame(t *testing.T) {
	for _, s := range []string{"", "a", "\x00", "\xff", "tandem", noughts(20), strings.Repeat("\xff", 20)} {
		f, _ := Frame(s)
		for i := 4; i < len(f); i++ {
			for by := 1; by < 256; by++ {
				b := []byte(f)
				b[i] ^= byte(by)
				wantScan(t, "a frame with a byte changed", string(b), nil, 0)
				if by == 0xff {
					wantScan(t, "such a frame and one more", string(b)+f, nil, 0)
				}
			}
		}
	}
}

// P1.4: noughts, and frames whose bytes from some place on are noughts.
func TestScanOfNoughts(t *testing.T) {
	tails := []string{"", "\xff", noughts(9), strings.Repeat("\xff", 400), frame(""), frame("next"), noughts(300) + "\xff"}
	for n := 8; n < 64; n++ {
		for _, tail := range tails {
			wantScan(t, "noughts", noughts(n)+tail, nil, 0)
		}
	}
	wantScan(t, "many noughts", noughts(api.MaxField+9), nil, 0)
	for _, s := range []string{"", "a", "\xff\xff\xff", noughts(30), strings.Repeat("long", 65)} {
		f, _ := Frame(s)
		for from := range len(f) {
			for _, tail := range tails {
				wantScan(t, "a frame that ends in noughts", f[:from]+noughts(len(f)-from)+tail, nil, 0)
			}
		}
	}
}

// P1, and the rules: what is handed in stays, its spare room too; an answer is new; nothing is kept.
func TestHandedInStays(t *testing.T) {
	room := []string{"a", "bc", "spare", "room"}
	was := slices.Clone(room)
	first, _ := Pack(room[:2]...)
	Sum(room[:2]...)
	if !slices.Equal(room, was) {
		t.Errorf("handed in %q, behind the calls %q", was, room)
	}
	room[0] = "changed"
	if again, _ := Pack("a", "bc"); again != first {
		t.Errorf("Pack of the same again: %x, at first %x", again, first)
	}
	one, _ := Unpack(first)
	one[0] = "changed"
	if two, _ := Unpack(first); two[0] != "a" {
		t.Errorf("Unpack of the same again: %q", two)
	}
	f, _ := Frame("a")
	list, _ := Scan(f + f)
	list[0] = "changed"
	if two, _ := Scan(f + f); two[0] != "a" || list[1] != "a" {
		t.Errorf("Scan of the same again: %q", two)
	}
}

// P1: every call ends and none panics, whatever bytes it is given.
func TestAnyBytes(t *testing.T) {
	r := rand.New(rand.NewSource(8))
	for range 20000 {
		s := someBytes(r, 24)
		if fields, e := Unpack(s); e == api.OK {
			if p, e := Pack(fields...); p != s || e != api.OK {
				t.Errorf("Unpack of %x: %q", s, fields)
			}
		} else if e != api.ErrBytes || len(fields) != 0 {
			t.Errorf("Unpack of %x: error %d, %q", s, e, fields)
		}
		if n, e := ReadNum(s); (e == api.OK) != (len(s) == 8) || e != api.OK && n != 0 {
			t.Errorf("ReadNum of %x: %d, error %d", s, n, e)
		}
		if f, e := Frame(s); e != api.OK || f != frame(s) {
			t.Errorf("Frame of %x: %x, error %d", s, f, e)
		}
		Scan(s)
		if Sum(s) != crc32.ChecksumIEEE([]byte(s)) {
			t.Errorf("Sum of %x", s)
		}
	}
}
