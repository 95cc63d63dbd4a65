package disk

import (
	"math"
	"math/rand"
	"slices"
	"strconv"
	"strings"
	"testing"

	"tandem/api"
)

func opPut(name string, at int, bytes string) api.DiskOp {
	return api.DiskOp{Kind: api.Put, Name: name, At: at, Bytes: bytes}
}

func opSync(name string) api.DiskOp { return api.DiskOp{Kind: api.Sync, Name: name} }

func opCut(name string, at int) api.DiskOp { return api.DiskOp{Kind: api.Cut, Name: name, At: at} }

func opDrop(name string) api.DiskOp { return api.DiskOp{Kind: api.Drop, Name: name} }

func file(name, safe string, open ...api.Write) api.File {
	return api.File{Name: name, Safe: safe, Open: open}
}

func disk(files ...api.File) api.Disk { return api.Disk{Files: files} }

func sameFile(a, b api.File) bool {
	return a.Name == b.Name && a.Safe == b.Safe && slices.Equal(a.Open, b.Open)
}

func same(a, b api.Disk) bool { return slices.EqualFunc(a.Files, b.Files, sameFile) }

// twin: the same disk made apart from the program.
func twin(d api.Disk) api.Disk {
	var out api.Disk
	for _, f := range d.Files {
		out.Files = append(out.Files, file(f.Name, f.Safe, slices.Clone(f.Open)...))
	}
	return out
}

// do: the disk behind operations that all have to be done.
func do(t *testing.T, d api.Disk, ops ...api.DiskOp) api.Disk {
	t.Helper()
	d, n, e := Do(d, ops...)
	if n != len(ops) || e != api.OK {
		t.Fatalf("Do: %d of %d operations, error %d", n, len(ops), e)
	}
	return d
}

func wantDisk(t *testing.T, what string, got, want api.Disk) {
	t.Helper()
	if !same(got, want) {
		t.Errorf("%s: %.300v, want %.300v", what, got, want)
	}
}

// wantRefused: the one operation is refused with that error, and the disk is told as it was.
func wantRefused(t *testing.T, what string, d api.Disk, op api.DiskOp, want api.Errno) {
	t.Helper()
	got, n, e := Do(d, op)
	if n != 0 || e != want || !same(got, d) {
		t.Errorf("Do of %s: %d operations, error %d, want 0 and %d", what, n, e, want)
	}
}

func wantBytes(t *testing.T, what string, d api.Disk, name, want string) {
	t.Helper()
	if got, e := Bytes(d, name); got != want || e != api.OK {
		t.Errorf("Bytes of %s: %.100q, error %d, want %.100q", what, got, e, want)
	}
}

// byteAt: the byte at a place, by the chapter's words and apart from the program: the last write that covers it, else the safe one.
func byteAt(safe string, writes []api.Write, i int) byte {
	for k := len(writes) - 1; k >= 0; k-- {
		w := writes[k]
		if w.At >= 0 && w.At <= 1<<20 && i >= w.At && i-w.At < len(w.Bytes) {
			return w.Bytes[i-w.At]
		}
	}
	if i < len(safe) {
		return safe[i]
	}
	return 0
}

// bytesOf: the safe bytes with the writes laid over them, byte by byte.
func bytesOf(safe string, writes []api.Write) string {
	end := len(safe)
	for _, w := range writes {
		if w.Bytes != "" && w.At >= 0 && w.At <= 1<<20 && w.At+len(w.Bytes) > end {
			end = w.At + len(w.Bytes)
		}
	}
	b := make([]byte, end)
	for i := range b {
		b[i] = byteAt(safe, writes, i)
	}
	return string(b)
}

// behind: a file behind its fate, by the chapter's words and apart from the program.
func behind(f api.File, fate api.Fate) string {
	tears := fate.Torn >= 0 && fate.Torn < len(f.Open)
	var left []api.Write
	for i, w := range f.Open {
		switch {
		case tears && i == fate.Torn:
			n := fate.Bytes
			if n < 0 {
				n = 0
			}
			if n > len(w.Bytes) {
				n = len(w.Bytes)
			}
			left = append(left, api.Write{At: w.At, Bytes: w.Bytes[:n]})
		case tears && i > fate.Torn:
		case i < len(fate.Whole) && fate.Whole[i]:
			left = append(left, w)
		}
	}
	return bytesOf(f.Safe, left)
}

func someBytes(r *rand.Rand, most int) string {
	b := make([]byte, r.Intn(most+1))
	for i := range b {
		b[i] = byte("\x00\xffabc"[r.Intn(5)])
	}
	return string(b)
}

// someDisk: a disk of any kind: names that may not be, twice the same, out of order; writes that do nothing.
func someDisk(r *rand.Rand) api.Disk {
	names := []string{"a", "b", "c", "b", "", "UP", "a.0", "zzzzzzzzzzzzzzzzz"}
	ats := []int{-1, math.MinInt, 1<<20 + 1, math.MaxInt}
	var d api.Disk
	for range r.Intn(6) {
		f := api.File{Name: names[r.Intn(len(names))], Safe: someBytes(r, 8)}
		for range r.Intn(5) {
			w := api.Write{At: r.Intn(12), Bytes: someBytes(r, 6)}
			if r.Intn(6) == 0 {
				w.At = ats[r.Intn(len(ats))]
			}
			f.Open = append(f.Open, w)
		}
		d.Files = append(d.Files, f)
	}
	return d
}

func someOps(r *rand.Rand, most int) []api.DiskOp {
	names := []string{"a", "b", "c", "d", "a.0", "0", "z", "a", "b"}
	ops := make([]api.DiskOp, r.Intn(most+1))
	for i := range ops {
		ops[i] = api.DiskOp{Kind: []int{1, 1, 1, 2, 3, 4}[r.Intn(6)], Name: names[r.Intn(len(names))], At: r.Intn(10), Bytes: someBytes(r, 6)}
		if r.Intn(30) == 0 {
			ops[i].Kind = []int{0, 5, -1, math.MaxInt, math.MinInt}[r.Intn(5)]
		}
		if r.Intn(30) == 0 {
			ops[i].Name = []string{"", "A", "a b", "é"}[r.Intn(4)]
		}
		if r.Intn(30) == 0 {
			ops[i].At = []int{-1, 1<<20 + 1, math.MinInt, math.MaxInt}[r.Intn(4)]
		}
	}
	return ops
}

func someFate(r *rand.Rand) api.Fate {
	f := api.Fate{Torn: r.Intn(8) - 2, Bytes: r.Intn(10) - 2}
	for range r.Intn(6) {
		f.Whole = append(f.Whole, r.Intn(2) == 0)
	}
	return f
}

func someFates(r *rand.Rand, most int) []api.Fate {
	fates := make([]api.Fate, r.Intn(most+1))
	for i := range fates {
		fates[i] = someFate(r)
	}
	return fates
}

// firstOf: the first file of a name, which has to be there.
func firstOf(d api.Disk, name string) api.File {
	return d.Files[slices.IndexFunc(d.Files, func(f api.File) bool { return f.Name == name })]
}

// oneOp: an operation by the chapter's words and apart from the program.
func oneOp(d api.Disk, op api.DiskOp) (api.Disk, api.Errno) {
	d = twin(d)
	at := -1
	for i, f := range d.Files {
		if f.Name == op.Name && at < 0 {
			at = i
		}
	}
	badName := len(op.Name) == 0 || len(op.Name) > 16 || strings.Trim(op.Name, "abcdefghijklmnopqrstuvwxyz0123456789.") != ""
	switch {
	case op.Kind < 1 || op.Kind > 4 || badName || op.Kind == 1 && op.At < 0:
		return d, api.ErrArg
	case op.Kind == 1 && (op.At > 1<<20 || op.At+len(op.Bytes) > 1<<20):
		return d, api.ErrLong
	case op.Kind == 1 && at < 0 && len(d.Files) >= 32:
		return d, api.ErrFull
	case op.Kind != 1 && at < 0:
		return d, api.ErrDisk
	}
	if op.Kind == 1 && at < 0 {
		for at = 0; at < len(d.Files) && d.Files[at].Name <= op.Name; at++ {
		}
		d.Files = append(append(slices.Clone(d.Files[:at]), file(op.Name, "")), d.Files[at:]...)
	}
	f := &d.Files[at]
	whole := bytesOf(f.Safe, f.Open)
	switch op.Kind {
	case 1:
		f.Open = append(f.Open, api.Write{At: op.At, Bytes: op.Bytes})
	case 2:
		*f = file(f.Name, whole)
	case 3:
		if op.At < 0 || op.At > len(whole) {
			return d, api.ErrArg
		}
		*f = file(f.Name, whole[:op.At])
	case 4:
		d.Files = append(slices.Clone(d.Files[:at]), d.Files[at+1:]...)
	}
	return d, api.OK
}

// P2.1: each byte, and the lengths just at 16 and one more.
func TestName(t *testing.T) {
	for i := range 256 {
		c := byte(i)
		want := c >= 'a' && c <= 'z' || c >= '0' && c <= '9' || c == '.'
		for _, s := range []string{string([]byte{c}), string([]byte{c, 'a'}), string([]byte{'a', c}), "a" + string([]byte{c}) + "a"} {
			if Name(s) != want {
				t.Errorf("Name(%q): %v", s, !want)
			}
		}
	}
	for n := range 40 {
		if got := Name(strings.Repeat("a", n)); got != (n >= 1 && n <= 16) {
			t.Errorf("Name of %d letters: %v", n, got)
		}
	}
	for _, s := range []string{"wal", "seg.00000001", "..", ".", "0"} {
		if !Name(s) {
			t.Errorf("Name(%q): false", s)
		}
	}
	for _, s := range []string{"é", "a/b", "a b", "Wal", "a-b", "a_b", "\x00", "seg.000000000001x", "`", "{", "/", ":", "-"} {
		if Name(s) {
			t.Errorf("Name(%q): true", s)
		}
	}
}

// P2.1: the chapter's examples.
func TestExamples(t *testing.T) {
	d := do(t, api.Disk{}, opPut("f", 0, "ab"), opSync("f"), opPut("f", 1, "XY"), opPut("f", 5, "z"))
	wantDisk(t, "the disk", d, disk(file("f", "ab", api.Write{At: 1, Bytes: "XY"}, api.Write{At: 5, Bytes: "z"})))
	wantBytes(t, "the file", d, "f", "aXY\x00\x00z")
	wantDisk(t, "the second survives", Crash(d, api.Fate{Whole: []bool{false, true}, Torn: -1}), disk(file("f", "ab\x00\x00\x00z")))
	wantDisk(t, "the first is torn", Crash(d, api.Fate{Torn: 0, Bytes: 1}), disk(file("f", "aX")))
}

// P2.1: a write is open behind the others till a Sync or a Cut, and a Drop takes all.
func TestOperations(t *testing.T) {
	d := do(t, api.Disk{}, opPut("m", 2, "xy"))
	wantDisk(t, "a Put of a new file", d, disk(file("m", "", api.Write{At: 2, Bytes: "xy"})))
	wantBytes(t, "a new file", d, "m", "\x00\x00xy")
	d = do(t, d, opPut("m", 3, "AB"), opPut("m", 9, ""))
	wantDisk(t, "three Puts", d, disk(file("m", "", api.Write{At: 2, Bytes: "xy"}, api.Write{At: 3, Bytes: "AB"}, api.Write{At: 9})))
	wantBytes(t, "three Puts, one of nothing", d, "m", "\x00\x00xAB")
	wantDisk(t, "Sync", do(t, d, opSync("m")), disk(file("m", "\x00\x00xAB")))
	wantDisk(t, "Sync of a synced one", do(t, d, opSync("m"), opSync("m")), disk(file("m", "\x00\x00xAB")))
	for n := range 6 {
		wantDisk(t, "Cut", do(t, d, opCut("m", n)), disk(file("m", "\x00\x00xAB"[:n])))
	}
	wantRefused(t, "Cut one beyond", d, opCut("m", 6), api.ErrArg)
	wantRefused(t, "Cut at a write of nothing", d, opCut("m", 9), api.ErrArg)
	wantRefused(t, "Cut below 0", d, opCut("m", -1), api.ErrArg)
	wantRefused(t, "Cut at the greatest place", d, opCut("m", math.MaxInt), api.ErrArg)
	wantDisk(t, "Drop", do(t, d, opDrop("m")), disk())
	wantDisk(t, "Drop, and Put again", do(t, d, opDrop("m"), opPut("m", 0, "n")), disk(file("m", "", api.Write{Bytes: "n"})))
	wantDisk(t, "a Put of nothing makes the file", do(t, api.Disk{}, opPut("e", 0, "")), disk(file("e", "", api.Write{})))
	wantDisk(t, "Sync takes no At", do(t, d, api.DiskOp{Kind: api.Sync, Name: "m", At: -7, Bytes: "more"}), disk(file("m", "\x00\x00xAB")))
	wantDisk(t, "no operation", do(t, d), d)
}

// P2.1: a new file stands ahead of the first with a greater name.
func TestPlaceOfANewFile(t *testing.T) {
	var d api.Disk
	for _, name := range []string{"m", "z", "a", "b", "m.1", "0", ".", "ma", "zz"} {
		d = do(t, d, opPut(name, 0, "x"))
	}
	var names []string
	for _, f := range d.Files {
		names = append(names, f.Name)
	}
	if want := []string{".", "0", "a", "b", "m", "m.1", "ma", "z", "zz"}; !slices.Equal(names, want) {
		t.Errorf("names %q, want %q", names, want)
	}
	mixed := disk(file("c", "1"), file("a", "2"), file("e", "3"), file("b", "4"))
	for _, c := range []struct {
		name string
		at   int
	}{{"aa", 0}, {"d", 2}, {"f", 4}, {"0", 0}} {
		got := do(t, mixed, opPut(c.name, 0, "x"))
		want := disk(slices.Insert(slices.Clone(mixed.Files), c.at, file(c.name, "", api.Write{Bytes: "x"}))...)
		wantDisk(t, "a file among files out of order", got, want)
	}
}

// P2.1: of two files of one name the first is meant.
func TestFirstOfAName(t *testing.T) {
	d := disk(file("b", "0"), file("a", "one"), file("a", "two", api.Write{At: 3, Bytes: "!"}))
	wantBytes(t, "a name that two have", d, "a", "one")
	wantDisk(t, "Put", do(t, d, opPut("a", 0, "O")), disk(d.Files[0], file("a", "one", api.Write{Bytes: "O"}), d.Files[2]))
	wantDisk(t, "Cut", do(t, d, opCut("a", 1)), disk(d.Files[0], file("a", "o"), d.Files[2]))
	wantDisk(t, "Drop", do(t, d, opDrop("a")), disk(d.Files[0], d.Files[2]))
	wantDisk(t, "Drop, then Sync", do(t, d, opDrop("a"), opSync("a")), disk(d.Files[0], file("a", "two!")))
	wantDisk(t, "Drop twice", do(t, d, opDrop("a"), opDrop("a")), disk(d.Files[0]))
}

// P2.1: places and lengths just at 2^20, and one more.
func TestPutLimits(t *testing.T) {
	const most = 1 << 20
	full := strings.Repeat("x", most)
	for _, c := range []struct {
		at, size int
		want     api.Errno
	}{
		{0, most, api.OK}, {0, most + 1, api.ErrLong},
		{1, most - 1, api.OK}, {1, most, api.ErrLong},
		{most - 1, 1, api.OK}, {most - 1, 2, api.ErrLong},
		{most, 0, api.OK}, {most, 1, api.ErrLong},
		{most + 1, 0, api.ErrLong}, {most + 1, 1, api.ErrLong},
		{math.MaxInt, 0, api.ErrLong}, {math.MaxInt, 1, api.ErrLong}, {math.MaxInt, most, api.ErrLong},
		{-1, 0, api.ErrArg}, {-1, 1, api.ErrArg}, {-1, most + 1, api.ErrArg}, {-1, most + 2, api.ErrArg}, {math.MinInt, 1, api.ErrArg},
	} {
		op := opPut("f", c.at, (full + "xx")[:c.size])
		what := "Put at " + strconv.Itoa(c.at) + " of " + strconv.Itoa(c.size)
		if c.want != api.OK {
			wantRefused(t, what, api.Disk{}, op, c.want)
			wantRefused(t, what+" to a file that is there", disk(file("f", "s")), op, c.want)
			continue
		}
		d := do(t, api.Disk{}, op)
		size := 0
		if c.size > 0 {
			size = most
		}
		got, e := Bytes(d, "f")
		if e != api.OK || got != strings.Repeat("\x00", size-c.size)+op.Bytes {
			t.Errorf("%s: %d bytes, error %d", what, len(got), e)
		}
		d = do(t, d, opSync("f"), opCut("f", size))
		if d.Files[0].Safe != got {
			t.Errorf("%s, Sync, Cut: %d bytes", what, len(d.Files[0].Safe))
		}
		wantRefused(t, what+", and a Cut one beyond", d, opCut("f", size+1), api.ErrArg)
	}
}

// P2.1: writes that do nothing, in disks that are handed in, and those that just do something.
func TestWritesThatDoNothing(t *testing.T) {
	const most = 1 << 20
	for _, c := range []struct {
		w    api.Write
		want string
	}{
		{api.Write{At: -1, Bytes: "xyz"}, "ab"},
		{api.Write{At: math.MinInt, Bytes: "xyz"}, "ab"},
		{api.Write{At: most + 1, Bytes: "xyz"}, "ab"},
		{api.Write{At: math.MaxInt, Bytes: "xyz"}, "ab"},
		{api.Write{At: 9, Bytes: ""}, "ab"},
		{api.Write{At: most, Bytes: ""}, "ab"},
		{api.Write{At: most, Bytes: "xyz"}, "ab" + strings.Repeat("\x00", most-2) + "xyz"},
		{api.Write{At: 0, Bytes: "X"}, "Xb"},
		{api.Write{At: 2, Bytes: "c"}, "abc"},
		{api.Write{At: 3, Bytes: "d"}, "ab\x00d"},
	} {
		d := disk(file("f", "ab", c.w))
		if got, e := Bytes(d, "f"); got != c.want || e != api.OK {
			t.Errorf("Bytes with a write of %d at %d: %d bytes, error %d", len(c.w.Bytes), c.w.At, len(got), e)
		}
		if got := do(t, d, opSync("f")); !same(got, disk(file("f", c.want))) {
			t.Errorf("Sync of a write of %d at %d", len(c.w.Bytes), c.w.At)
		}
		if got := Crash(d, api.Fate{Whole: []bool{true}, Torn: -1}); !same(got, disk(file("f", c.want))) {
			t.Errorf("Crash of a write of %d at %d", len(c.w.Bytes), c.w.At)
		}
		if got := Crash(d, api.Fate{Torn: 0, Bytes: 0}); !same(got, disk(file("f", "ab"))) {
			t.Errorf("Crash that leaves no byte of a write of %d at %d", len(c.w.Bytes), c.w.At)
		}
	}
}

// P2.1: MaxFiles, and one more.
func TestMaxFiles(t *testing.T) {
	var ops []api.DiskOp
	for i := range 32 {
		ops = append(ops, opPut("f"+strconv.Itoa(i), 0, "x"))
	}
	d := do(t, api.Disk{}, ops...)
	if len(d.Files) != 32 {
		t.Fatalf("%d files", len(d.Files))
	}
	wantRefused(t, "a file more than MaxFiles", d, opPut("g", 0, "x"), api.ErrFull)
	wantRefused(t, "a file more, of no bytes", d, opPut("g", 0, ""), api.ErrFull)
	wantRefused(t, "a file more, too long", d, opPut("g", 1<<20, "x"), api.ErrLong)
	do(t, d, opPut("f31", 0, "y"))
	do(t, d, opDrop("f7"), opPut("g", 0, "x"))
	more := twin(d)
	more.Files = append(more.Files, file("f0", ""), file("", ""))
	wantRefused(t, "a file more than many", more, opPut("g", 0, "x"), api.ErrFull)
	do(t, more, opPut("f0", 0, "y"), opSync("f0"), opDrop("f0"))
	got, n, e := Do(d, opPut("f1", 0, "y"), opPut("g", 0, "x"), opDrop("f1"))
	if n != 1 || e != api.ErrFull || len(got.Files) != 32 {
		t.Errorf("Do up to a full disk: %d operations, error %d, %d files", n, e, len(got.Files))
	}
}

// P2.1: wrong operations; where several errors apply, the first that the chapter names.
func TestWrongOperations(t *testing.T) {
	d := disk(file("f", "ab"), file("UP", "cd"))
	for _, kind := range []int{0, 5, -1, math.MaxInt, math.MinInt} {
		wantRefused(t, "a Kind that is none", d, api.DiskOp{Kind: kind, Name: "f"}, api.ErrArg)
		wantRefused(t, "a Kind that is none, no file", d, api.DiskOp{Kind: kind, Name: "g", At: 1 << 30}, api.ErrArg)
	}
	for kind := 1; kind <= 4; kind++ {
		for _, name := range []string{"", "UP", "aaaaaaaaaaaaaaaaa", "f ", "é"} {
			wantRefused(t, "a name that may not be", d, api.DiskOp{Kind: kind, Name: name, At: 1 << 30}, api.ErrArg)
		}
	}
	for kind := 2; kind <= 4; kind++ {
		for _, at := range []int{0, -1, 1 << 30} {
			wantRefused(t, "no such file", d, api.DiskOp{Kind: kind, Name: "g", At: at}, api.ErrDisk)
		}
	}
	for _, name := range []string{"g", "", "ff"} {
		if got, e := Bytes(d, name); got != "" || e != api.ErrDisk {
			t.Errorf("Bytes of %q: %q, error %d", name, got, e)
		}
	}
	if got, e := Bytes(api.Disk{}, "f"); got != "" || e != api.ErrDisk {
		t.Errorf("Bytes of a disk without files: %q, error %d", got, e)
	}
}

// P2.1: up to the first that is refused; disk and number are told beside the error.
func TestDoStops(t *testing.T) {
	for at := range 4 {
		ops := []api.DiskOp{opPut("a", 0, "1"), opPut("b", 0, "2"), opSync("a")}
		want := do(t, api.Disk{}, ops[:at]...)
		got, n, e := Do(api.Disk{}, slices.Insert(slices.Clone(ops), at, opDrop("none"))...)
		if n != at || e != api.ErrDisk {
			t.Errorf("refused at %d: %d operations, error %d", at, n, e)
		}
		wantDisk(t, "refused at "+strconv.Itoa(at), got, want)
	}
}

// P2.1, P2.3: any operations on any disk, held against a disk made apart from the program; in one list, or in two.
func TestSomeOperations(t *testing.T) {
	r := rand.New(rand.NewSource(1))
	errors := map[api.Errno]int{}
	for range 6000 {
		d, ops := someDisk(r), someOps(r, 12)
		want, done, wrong := d, 0, api.OK
		for _, op := range ops {
			var next api.Disk
			if next, wrong = oneOp(want, op); wrong != api.OK {
				break
			}
			want, done = next, done+1
		}
		errors[wrong]++
		got, n, e := Do(d, ops...)
		if n != done || e != wrong || !same(got, want) {
			t.Fatalf("Do(%v, %v): %v, %d, error %d; want %v, %d, %d", d, ops, got, n, e, want, done, wrong)
		}
		for i := range done + 1 {
			first := do(t, d, ops[:i]...)
			second, k, e := Do(first, ops[i:]...)
			if i+k != n || e != wrong || !same(second, got) {
				t.Fatalf("Do of two lists, cut at %d: %d and %d, error %d", i, i, k, e)
			}
		}
		for _, f := range got.Files {
			one := firstOf(got, f.Name)
			wantBytes(t, "some file", got, f.Name, bytesOf(one.Safe, one.Open))
		}
	}
	for _, e := range []api.Errno{api.OK, api.ErrArg, api.ErrLong, api.ErrDisk} {
		if errors[e] < 50 {
			t.Errorf("error %d came %d times: the test shows too little", e, errors[e])
		}
	}
}

// P2.1: each kind of fate, of three open writes.
func TestFates(t *testing.T) {
	f := file("f", "abcd", api.Write{At: 1, Bytes: "123"}, api.Write{At: 2, Bytes: "XYZ"}, api.Write{At: 7, Bytes: "89"})
	yes, no := true, false
	for _, c := range []struct {
		fate api.Fate
		want string
	}{
		{api.Fate{Torn: -1}, "abcd"},
		{api.Fate{Torn: 3}, "abcd"},
		{api.Fate{Torn: math.MaxInt}, "abcd"},
		{api.Fate{Torn: math.MinInt}, "abcd"},
		{api.Fate{}, "abcd"},
		{api.Fate{Whole: []bool{yes, yes, yes}, Torn: -1}, "a1XYZ\x00\x0089"},
		{api.Fate{Whole: []bool{yes, yes, yes}, Torn: 3, Bytes: 1}, "a1XYZ\x00\x0089"},
		{api.Fate{Whole: []bool{yes, yes, yes, yes, yes}, Torn: 4, Bytes: 1}, "a1XYZ\x00\x0089"},
		{api.Fate{Whole: []bool{yes, yes, yes}, Torn: -2, Bytes: 1}, "a1XYZ\x00\x0089"},
		{api.Fate{Whole: []bool{yes}, Torn: -1}, "a123"},
		{api.Fate{Whole: []bool{no, yes}, Torn: -1}, "abXYZ"},
		{api.Fate{Whole: []bool{no, no, yes}, Torn: -1}, "abcd\x00\x00\x0089"},
		{api.Fate{Whole: []bool{no, yes, no, yes}, Torn: -1}, "abXYZ"},
		{api.Fate{Torn: 0, Bytes: 1}, "a1cd"},
		{api.Fate{Torn: 0, Bytes: 3}, "a123"},
		{api.Fate{Torn: 0, Bytes: 4}, "a123"},
		{api.Fate{Torn: 0, Bytes: math.MaxInt}, "a123"},
		{api.Fate{Torn: 0, Bytes: -1}, "abcd"},
		{api.Fate{Torn: 0, Bytes: math.MinInt}, "abcd"},
		{api.Fate{Whole: []bool{yes, yes, yes}, Torn: 0, Bytes: 0}, "abcd"},
		{api.Fate{Whole: []bool{yes, yes, yes}, Torn: 0, Bytes: 2}, "a12d"},
		{api.Fate{Whole: []bool{yes, yes, yes}, Torn: 1, Bytes: 1}, "a1X3"},
		{api.Fate{Whole: []bool{no, no, yes}, Torn: 1, Bytes: 3}, "abXYZ"},
		{api.Fate{Whole: []bool{yes, yes, yes}, Torn: 2, Bytes: 0}, "a1XYZ"},
		{api.Fate{Whole: []bool{yes, yes, yes}, Torn: 2, Bytes: 1}, "a1XYZ\x00\x008"},
		{api.Fate{Whole: []bool{yes}, Torn: 2, Bytes: 9}, "a123\x00\x00\x0089"},
	} {
		if got := Crash(disk(f), c.fate); !same(got, disk(file("f", c.want))) {
			t.Errorf("Crash with %v: %v, want %v", c.fate, got, c.want)
		}
	}
}

// P2.1: file number i by fate number i; without one nothing open survives.
func TestFatesOfFiles(t *testing.T) {
	w := api.Write{At: 1, Bytes: "XY"}
	d := disk(file("c", "ab", w), file("a", "ab", w), file("a", "ab", w), file("UP", "ab", w))
	all := api.Fate{Whole: []bool{true}, Torn: -1}
	want := func(safe ...string) api.Disk {
		out := twin(d)
		for i := range out.Files {
			out.Files[i] = file(d.Files[i].Name, safe[i])
		}
		return out
	}
	wantDisk(t, "no fates", Crash(d), want("ab", "ab", "ab", "ab"))
	wantDisk(t, "one fate", Crash(d, all), want("aXY", "ab", "ab", "ab"))
	wantDisk(t, "three fates", Crash(d, api.Fate{}, all, api.Fate{Torn: 0, Bytes: 1}), want("ab", "aXY", "aX", "ab"))
	wantDisk(t, "five fates", Crash(d, all, all, all, api.Fate{Torn: -1}, all), want("aXY", "aXY", "aXY", "ab"))
	wantDisk(t, "a disk without files", Crash(api.Disk{}, all), disk())
	wantDisk(t, "a file that was never synced", Crash(do(t, api.Disk{}, opPut("n", 0, "x"))), disk(file("n", "")))
	wantDisk(t, "a dropped file", Crash(do(t, d, opDrop("c")), all), disk(file("a", "aXY"), file("a", "ab"), file("UP", "ab")))
}

// P2.1, P2.2, P2.4: any crash of any disk, held against one made apart from the program.
func TestSomeCrashes(t *testing.T) {
	r := rand.New(rand.NewSource(2))
	for range 6000 {
		d, fates := someDisk(r), someFates(r, 7)
		got := Crash(d, fates...)
		if len(got.Files) != len(d.Files) {
			t.Fatalf("%d files of %d", len(got.Files), len(d.Files))
		}
		for i, f := range d.Files {
			fate := api.Fate{Torn: -1}
			if i < len(fates) {
				fate = fates[i]
			}
			if !sameFile(got.Files[i], file(f.Name, behind(f, fate))) {
				t.Fatalf("Crash of %v with %v: %v", f, fate, got.Files[i])
			}
			wantSafeStays(t, f, got.Files[i].Safe)
		}
		wantDisk(t, "a second crash", Crash(got, someFates(r, 7)...), got)
		wantDisk(t, "a crash with nothing open, behind operations", Crash(do(t, got), someFates(r, 7)...), got)
	}
}

// wantSafeStays: P2.2, the safe bytes that no open write covers are there still.
func wantSafeStays(t *testing.T, f api.File, now string) {
	t.Helper()
	for i := range len(f.Safe) {
		covered := false
		for _, w := range f.Open {
			covered = covered || w.At >= 0 && w.At <= i && i-w.At < len(w.Bytes)
		}
		if !covered && (i >= len(now) || now[i] != f.Safe[i]) {
			t.Fatalf("the safe byte %d of %v: behind the crash %v", i, f, now)
		}
	}
}

// P2.4.
func TestAllOrNone(t *testing.T) {
	r := rand.New(rand.NewSource(3))
	for range 2000 {
		d := someDisk(r)
		var all, none []api.Fate
		for _, f := range d.Files {
			all = append(all, api.Fate{Whole: slices.Repeat([]bool{true}, len(f.Open)), Torn: -1, Bytes: r.Intn(3)})
			none = append(none, api.Fate{Torn: -1})
		}
		whole, safe := Crash(d, all...), Crash(d, none...)
		for i, f := range d.Files {
			if got := whole.Files[i]; !sameFile(got, file(f.Name, bytesOf(f.Safe, f.Open))) {
				t.Fatalf("all of %v survive: %v", f, got)
			}
			if got := safe.Files[i]; !sameFile(got, file(f.Name, f.Safe)) {
				t.Fatalf("none of %v survives: %v", f, got)
			}
			one := firstOf(d, f.Name)
			wantBytes(t, "some file", d, f.Name, bytesOf(one.Safe, one.Open))
		}
	}
}

// P2.1.
func TestCopy(t *testing.T) {
	r := rand.New(rand.NewSource(4))
	wantDisk(t, "Copy of nothing", Copy(api.Disk{}), disk())
	for range 500 {
		d := someDisk(r)
		wantDisk(t, "Copy", Copy(d), d)
	}
}

// roomy: the disk with room to spare behind each list, of the wrong stuff; the room is told apart.
func roomy() (api.Disk, []api.File, []api.Write) {
	open := []api.Write{{At: 0, Bytes: "X"}, {At: 1, Bytes: "Y"}, {At: 7, Bytes: "spare"}, {At: 8, Bytes: "room"}}
	files := []api.File{{Name: "b", Safe: "one", Open: open[:2]}, {Name: "c", Safe: "two"}, {Name: "spare"}, {Name: "room"}}
	return api.Disk{Files: files[:2]}, files, open
}

// P1 and the rules: what is handed in stays, its spare room too; an answer is new memory.
func TestHandedInStays(t *testing.T) {
	d, files, open := roomy()
	_, wasFiles, wasOpen := roomy()
	whole := []bool{true, false, true, true}
	fates := []api.Fate{{Whole: whole[:2], Torn: -1}, {Torn: 0, Bytes: 1}}
	ops := []api.DiskOp{opPut("a", 0, "n"), opPut("b", 2, "Z"), opPut("bb", 0, "m"), opSync("b"), opCut("c", 1), opDrop("c"), opDrop("b"), opPut("z", 0, "")}
	wasOps := slices.Clone(ops)
	var answers []api.Disk
	for i := range len(ops) + 1 {
		answers = append(answers, do(t, d, ops[:i]...))
	}
	refused, _, _ := Do(d, opPut("b", 2, "Z"), opDrop("none"))
	answers = append(answers, refused, Crash(d, fates...), Crash(d), Copy(d))
	if _, e := Bytes(d, "b"); e != api.OK {
		t.Errorf("Bytes: error %d", e)
	}
	stays := func(what string) {
		t.Helper()
		if !slices.Equal(open, wasOpen) || !slices.EqualFunc(files, wasFiles, sameFile) || !slices.Equal(ops, wasOps) || !slices.Equal(whole, []bool{true, false, true, true}) {
			t.Fatalf("%s: handed in %v, %v; now %v, %v", what, wasFiles, wasOpen, files, open)
		}
	}
	stays("behind the calls")
	for _, a := range answers {
		was := twin(a)
		for i := range a.Files {
			for k := range a.Files[i].Open {
				a.Files[i].Open[k].Bytes = "changed"
			}
			a.Files[i].Open = append(a.Files[i].Open, api.Write{At: 9, Bytes: "changed"})
			a.Files[i].Name = "changed"
		}
		a.Files = append(a.Files, file("changed", ""))
		stays("behind a change of an answer of " + strconv.Itoa(len(was.Files)) + " files")
	}
}

// P1 and the rules: no two lists of one answer share their memory, their spare room neither.
func TestListsOfAnAnswer(t *testing.T) {
	var ops []api.DiskOp
	for i := range 9 {
		for _, name := range []string{"a", "c", "b"} {
			ops = append(ops, opPut(name, i, name))
		}
	}
	d := do(t, api.Disk{}, ops...)
	was := twin(d)
	for i := range d.Files {
		grown := append(d.Files[i].Open, api.Write{At: 1, Bytes: "more"})
		grown[len(grown)-1].At = 2
		wantDisk(t, "a list that grows in its room", d, was)
	}
	again := do(t, api.Disk{}, ops...)
	d.Files[0].Open[0].Bytes = "changed"
	wantDisk(t, "the same again", again, was)
}

// P1: every call ends and none panics, whatever it is given.
func TestAnything(t *testing.T) {
	r := rand.New(rand.NewSource(5))
	odd := func() int {
		return []int{0, 1, 2, -1, 1 << 20, 1<<20 + 1, math.MaxInt, math.MinInt, math.MaxInt32, math.MinInt32}[r.Intn(10)]
	}
	for range 300 {
		var d api.Disk
		for range r.Intn(3) {
			f := file(someBytes(r, 18), someBytes(r, 3))
			for range r.Intn(3) {
				f.Open = append(f.Open, api.Write{At: odd(), Bytes: someBytes(r, 3)})
			}
			d.Files = append(d.Files, f)
		}
		var ops []api.DiskOp
		for range r.Intn(4) {
			ops = append(ops, api.DiskOp{Kind: r.Intn(7) - 1, Name: someBytes(r, 18), At: odd(), Bytes: someBytes(r, 3)})
			Name(ops[0].Name)
			Bytes(d, ops[0].Name)
		}
		if _, n, e := Do(d, ops...); n > len(ops) || e == api.OK && n != len(ops) || e != api.OK && n == len(ops) {
			t.Fatalf("Do: %d of %d, error %d", n, len(ops), e)
		}
		wantDisk(t, "Copy", Copy(d), d)
		got := Crash(d, api.Fate{Whole: []bool{true, true}, Torn: odd(), Bytes: odd()})
		if len(got.Files) != len(d.Files) {
			t.Fatalf("Crash: %d files of %d", len(got.Files), len(d.Files))
		}
	}
}
