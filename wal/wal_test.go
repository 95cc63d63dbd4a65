package wal

import (
	"maps"
	"math"
	"math/rand"
	"regexp"
	"slices"
	"strconv"
	"strings"
	"testing"

	"tandem/api"
	"tandem/disk"
	"tandem/wire"
)

func opPut(name string, at int, bytes string) api.DiskOp {
	return api.DiskOp{Kind: api.Put, Name: name, At: at, Bytes: bytes}
}

func opSync(name string) api.DiskOp { return api.DiskOp{Kind: api.Sync, Name: name} }

func opCut(name string, at int) api.DiskOp { return api.DiskOp{Kind: api.Cut, Name: name, At: at} }

func opDrop(name string) api.DiskOp { return api.DiskOp{Kind: api.Drop, Name: name} }

func file(name, safe string, open ...api.Write) api.File {
	return api.File{Name: name, Safe: safe, Open: open}
}

func files(list ...api.File) api.Disk { return api.Disk{Files: list} }

// frame: the frames of the records, one behind the other.
func frame(records ...string) string {
	var b strings.Builder
	for _, r := range records {
		f, e := wire.Frame(r)
		if e != api.OK {
			panic(e)
		}
		b.WriteString(f)
	}
	return b.String()
}

// filled: a record whose frame has so many bytes.
func filled(size int) string { return strings.Repeat("x", size-9) }

func sameFile(a, b api.File) bool {
	return a.Name == b.Name && a.Safe == b.Safe && slices.Equal(a.Open, b.Open)
}

func sameDisk(a, b api.Disk) bool { return slices.EqualFunc(a.Files, b.Files, sameFile) }

// twin: the same disk made apart from the program.
func twin(d api.Disk) api.Disk {
	var out api.Disk
	for _, f := range d.Files {
		out.Files = append(out.Files, file(f.Name, f.Safe, slices.Clone(f.Open)...))
	}
	return out
}

// do: the disk behind operations that all have to be done.
func do(t *testing.T, d api.Disk, ops ...api.DiskOp) api.Disk {
	t.Helper()
	d, n, e := disk.Do(d, ops...)
	if n != len(ops) || e != api.OK {
		t.Fatalf("Do: %d of %d operations, error %d", n, len(ops), e)
	}
	return d
}

// plan: a plan beside which there is no error.
func plan(t *testing.T) func([]api.DiskOp, api.Errno) []api.DiskOp {
	return func(ops []api.DiskOp, e api.Errno) []api.DiskOp {
		t.Helper()
		if e != api.OK {
			t.Fatalf("a plan: error %d", e)
		}
		return ops
	}
}

func wantPlan(t *testing.T, what string, got []api.DiskOp, e api.Errno, want ...api.DiskOp) {
	t.Helper()
	if e != api.OK || !slices.Equal(got, want) {
		t.Errorf("%s: error %d, %.300v, want %.300v", what, e, got, want)
	}
}

// wantRefused: there is that error, and no plan beside it.
func wantRefused(t *testing.T, what string, got []api.DiskOp, e, want api.Errno) {
	t.Helper()
	if e != want || len(got) != 0 {
		t.Errorf("%s: error %d, %.300v, want error %d alone", what, e, got, want)
	}
}

func wantOpen(t *testing.T, what string, d api.Disk, p string, records []string, mend ...api.DiskOp) {
	t.Helper()
	got, ops, e := Open(d, p)
	if e != api.OK || !slices.Equal(got, records) {
		t.Errorf("Open of %s: error %d, records %.200q, want %.200q", what, e, got, records)
	}
	if !slices.Equal(ops, mend) {
		t.Errorf("Open of %s: plan %.300v, want %.300v", what, ops, mend)
	}
}

// opened: the records that Open tells, and its plan.
func opened(t *testing.T, d api.Disk, p string) ([]string, []api.DiskOp) {
	t.Helper()
	records, ops, e := Open(d, p)
	if e != api.OK {
		t.Fatalf("Open: error %d", e)
	}
	return records, ops
}

// wantMended: behind any beginning of Open's plan Open tells the same records, and behind all of it there is nothing to mend; that disk.
func wantMended(t *testing.T, what string, d api.Disk, p string) api.Disk {
	t.Helper()
	records, ops := opened(t, d, p)
	for k := range len(ops) + 1 {
		some := disk.Crash(do(t, d, ops[:k]...))
		if got, _ := opened(t, some, p); !slices.Equal(got, records) {
			t.Fatalf("%s: behind %d operations of its plan Open tells %.200q, ahead of it %.200q", what, k, got, records)
		}
	}
	d = do(t, d, ops...)
	if _, more := opened(t, d, p); len(more) != 0 {
		t.Fatalf("%s: behind its plan %.300v, Open has to mend %.300v", what, ops, more)
	}
	return d
}

// begin: is a a beginning of b?
func begin(a, b []string) bool { return len(a) <= len(b) && slices.Equal(a, b[:len(a)]) }

// segmentsOf: the prefix's segments by numbers, with all their bytes, by the chapter's words and apart from the program.
func segmentsOf(d api.Disk, p string) map[int]string {
	all := map[int]string{}
	form := regexp.MustCompile(`\A` + p + `\.[0-9]{6}\z`)
	for _, f := range d.Files {
		if form.MatchString(f.Name) {
			n, _ := strconv.Atoi(f.Name[len(p)+1:])
			all[n], _ = disk.Bytes(d, f.Name)
		}
	}
	return all
}

// othersOf: the files that are no segments of the prefix.
func othersOf(d api.Disk, p string) api.Disk {
	var out api.Disk
	for _, f := range d.Files {
		if len(segmentsOf(files(f), p)) == 0 {
			out.Files = append(out.Files, f)
		}
	}
	return out
}

func nameOf(p string, n int) string {
	tail := "000000" + strconv.Itoa(n)
	return p + "." + tail[len(tail)-6:]
}

func whole(s string) int {
	_, n := wire.Scan(s)
	return n
}

// runsOf: the numbers in runs, rising.
func runsOf(all map[int]string) [][]int {
	var runs [][]int
	for i, n := range slices.Sorted(maps.Keys(all)) {
		if i == 0 || !slices.Contains(runs[len(runs)-1], n-1) {
			runs = append(runs, nil)
		}
		runs[len(runs)-1] = append(runs[len(runs)-1], n)
	}
	return runs
}

// openOf: what Open answers, by the chapter's words and apart from the program.
func openOf(d api.Disk, p string) ([]string, []api.DiskOp) {
	all := segmentsOf(d, p)
	runs := runsOf(all)
	log := -1
	for i, run := range runs {
		if whole(all[run[0]]) > 0 {
			log = i
		}
	}
	var records []string
	var ops []api.DiskOp
	for i := len(runs) - 1; i >= 0; i-- {
		run := runs[i]
		torn := -1
		if i == log {
			torn = slices.IndexFunc(run, func(n int) bool { return whole(all[n]) < len(all[n]) })
			if torn < 0 {
				torn = len(run)
			}
			for _, n := range run[:min(torn+1, len(run))] {
				list, _ := wire.Scan(all[n])
				records = append(records, list...)
			}
		}
		for k := len(run) - 1; k > torn; k-- {
			ops = append(ops, opDrop(nameOf(p, run[k])))
		}
		if i == log && torn < len(run) {
			ops = append(ops, opCut(nameOf(p, run[torn]), whole(all[run[torn]])))
		}
	}
	return records, ops
}

// appendOf: what Append answers for a prefix that may be, by the chapter's words and apart from the program.
func appendOf(d api.Disk, p string, records ...string) ([]api.DiskOp, api.Errno) {
	size, last := map[int]int{}, 0
	for n, b := range segmentsOf(d, p) {
		size[n], last = len(b), max(last, n)
	}
	if slices.ContainsFunc(records, func(r string) bool { return len(r) > 131072 }) {
		return nil, api.ErrLong
	}
	var ops []api.DiskOp
	for _, r := range records {
		if size[last] != 0 && size[last]+len(frame(r)) > 65536 {
			if last == 999999 {
				return nil, api.ErrFull
			}
			ops = append(ops, opSync(nameOf(p, last)))
			last++
		}
		ops = append(ops, opPut(nameOf(p, last), size[last], frame(r)))
		size[last] += len(frame(r))
	}
	return ops, api.OK
}

// syncOfLast: what Sync answers, by the chapter's words and apart from the program.
func syncOfLast(d api.Disk, p string) []api.DiskOp {
	all := slices.Sorted(maps.Keys(segmentsOf(d, p)))
	if len(all) == 0 {
		return nil
	}
	return []api.DiskOp{opSync(nameOf(p, all[len(all)-1]))}
}

// renewOf: what Renew answers for a prefix that may be, by the chapter's words and apart from the program.
func renewOf(d api.Disk, p, record string) ([]api.DiskOp, api.Errno) {
	n, all := 0, slices.Sorted(maps.Keys(segmentsOf(d, p)))
	if len(all) > 0 {
		n = slices.Max(all) + 2
	}
	switch {
	case len(record) > 131072:
		return nil, api.ErrLong
	case n > 999999:
		return nil, api.ErrFull
	}
	ops := []api.DiskOp{opPut(nameOf(p, n), 0, frame(record)), opSync(nameOf(p, n))}
	slices.Reverse(all)
	for _, old := range all {
		ops = append(ops, opDrop(nameOf(p, old)))
	}
	return ops, api.OK
}

// one: one of the things.
func one[T any](r *rand.Rand, of ...T) T { return of[r.Intn(len(of))] }

func someRecord(r *rand.Rand) string {
	return strings.Repeat(one(r, "a", "\x00", "\xff", "é"), one(r, 0, 1, 2, 5, 9, 40))
}

// someBytes: bytes of a segment of any kind: frames, frames with a torn one behind them or between them, noughts, none.
func someBytes(r *rand.Rand) string {
	var b strings.Builder
	for range r.Intn(4) {
		b.WriteString(frame(someRecord(r)))
	}
	if r.Intn(2) == 0 {
		f := frame(someRecord(r))
		b.WriteString(one(r, "\x00", "a", strings.Repeat("\x00", 12), f[:r.Intn(len(f))], f[1:]))
	}
	if r.Intn(4) == 0 {
		b.WriteString(frame(someRecord(r)))
	}
	if r.Intn(40) == 0 {
		return frame(filled(65536 - one(r, 0, 9, 10, 11)))
	}
	return b.String()
}

// someName: of a segment of the prefix w most times; else one that only looks so, or another's.
func someName(r *rand.Rand, base int) string {
	if r.Intn(4) > 0 {
		return nameOf("w", base+r.Intn(9))
	}
	return one(r, "w.", "w", "", "w.00000", "w.0000001", "w.1000000", "w.00000a", "w.-00001", "w.+00001", "w. 00001", "w000000", "W.000001",
		"w.000001.", ".w.000001", "ww.000001", "vw.000001", "w.w.000001", "x.000001", "v.000001", "wa.00001", "w..00001", "w.٣0000", "w.000001\n")
}

// someDisk: a disk of any kind: names of many kinds, out of order and twice the same; open writes, some of which do nothing.
func someDisk(r *rand.Rand) api.Disk {
	var d api.Disk
	base := one(r, 0, 0, 7, 99995, 999986, 999989, 999990, 999991)
	for range r.Intn(10) {
		f := file(someName(r, base), one(r, someBytes(r), ""))
		at := len(f.Safe)
		for range r.Intn(3) {
			w := api.Write{At: one(r, at, at, at, 0, 1, -1, 1<<20+1), Bytes: one(r, someBytes(r), "", "b")}
			f.Open = append(f.Open, w)
			at += len(w.Bytes)
		}
		d.Files = append(d.Files, f)
	}
	return d
}

// fatesOf: fates of so many open writes that leave, take and tear them, each of these at each write.
func fatesOf(open []api.Write) []api.Fate {
	fates := []api.Fate{{Torn: -1}}
	if len(open) == 0 {
		return fates
	}
	fates = nil
	for bits := range 1 << len(open) {
		var taken []bool
		for i := range open {
			taken = append(taken, bits>>i&1 == 1)
		}
		fates = append(fates, api.Fate{Whole: taken, Torn: -1})
		for i, w := range open {
			n := len(w.Bytes)
			for _, b := range []int{0, 1, 4, 8, n / 2, n - 1, n} {
				fates = append(fates, api.Fate{Whole: taken, Torn: i, Bytes: b})
			}
		}
	}
	return fates
}

// crashes: the disk behind crashes, each file by each of its fates with each of the others'.
func crashes(d api.Disk) []api.Disk {
	lists := [][]api.Fate{nil}
	for _, f := range d.Files {
		var more [][]api.Fate
		for _, list := range lists {
			for _, fate := range fatesOf(f.Open) {
				more = append(more, append(slices.Clone(list), fate))
			}
		}
		lists = more
	}
	var out []api.Disk
	for _, list := range lists {
		out = append(out, disk.Crash(d, list...))
	}
	return out
}

// someCrash: the disk behind a crash by some fates.
func someCrash(r *rand.Rand, d api.Disk) api.Disk {
	var fates []api.Fate
	for _, f := range d.Files {
		fates = append(fates, one(r, fatesOf(f.Open[:min(len(f.Open), 6)])...))
		for range len(f.Open) {
			fates[len(fates)-1].Whole = append(fates[len(fates)-1].Whole, r.Intn(3) > 0)
		}
	}
	return disk.Crash(d, fates...)
}

// P4.1: the chapter's examples.
func TestExamples(t *testing.T) {
	ops, e := Append(api.Disk{}, "w", "a")
	wantPlan(t, "Append of a", ops, e, opPut("w.000000", 0, frame("a")))
	if len(ops) == 1 && len(ops[0].Bytes) != 10 {
		t.Errorf("Append of a: %d bytes", len(ops[0].Bytes))
	}
	d := files(file("w.000000", frame("a")), file("w.000001", frame("b")))
	ops, e = Renew(d, "w", "c")
	wantPlan(t, "Renew with segments 0 and 1", ops, e, opPut("w.000003", 0, frame("c")), opSync("w.000003"), opDrop("w.000001"), opDrop("w.000000"))
}

// P4.1: names, of numbers from 0 on and beyond six digits.
func TestName(t *testing.T) {
	for _, c := range []struct {
		p    string
		i    int
		want string
	}{
		{"w", 0, "w.000000"}, {"w", 7, "w.000007"}, {"w", 10, "w.000010"}, {"abcdefgh", 123456, "abcdefgh.123456"}, {"r", 99999, "r.099999"}, {"r", 100000, "r.100000"},
		{"w", 999999, "w.999999"}, {"w", 1000000, "w.000000"}, {"w", 1234567, "w.234567"}, {"w", 98700000001, "w.000001"}, {"w", math.MaxInt, "w.775807"},
		{"", 3, ".000003"}, {"W\xff", 3, "W\xff.000003"},
	} {
		if got := Name(c.p, c.i); got != c.want {
			t.Errorf("Name(%q, %d): %q, want %q", c.p, c.i, got, c.want)
		}
	}
	for _, i := range []int{-1, -999999, -1000000, math.MinInt} {
		if got := Name("w", i); got != "" {
			t.Errorf("Name(w, %d): %q", i, got)
		}
	}
}

// errorsOf: the errors of Open, Append, Sync and Renew for a prefix, on a disk that has a segment of it.
func errorsOf(p, record string) [4]api.Errno {
	d := files(file(Name(p, 0), frame("a")+"torn"))
	records, mend, open := Open(d, p)
	put, app := Append(d, p, record)
	safe, sync := Sync(d, p)
	anew, renew := Renew(d, p, record)
	for i, e := range []api.Errno{open, app, sync, renew} {
		if e != api.OK && [][]api.DiskOp{mend, put, safe, anew}[i] != nil || open != api.OK && records != nil {
			return [4]api.Errno{-1, -1, -1, -1}
		}
	}
	return [4]api.Errno{open, app, sync, renew}
}

// P4.1: prefixes that may be, and those that may not.
func TestPrefix(t *testing.T) {
	for _, p := range []string{"a", "z", "w", "az", "abcdefgh", "zzzzzzzz"} {
		if got := errorsOf(p, "b"); got != [4]api.Errno{} {
			t.Errorf("prefix %q: errors %v", p, got)
		}
		d := files(file(p+".000004", frame("a")))
		wantOpen(t, "prefix "+p, d, p, []string{"a"})
	}
	bad := [4]api.Errno{api.ErrArg, api.ErrArg, api.ErrArg, api.ErrArg}
	for _, p := range []string{"", "abcdefghi", strings.Repeat("a", 1000), "A", "aB", "a1", "0", "a.", ".", "a b", "`", "{", "é", "a\x00", "\xff", "a\n", "abcdefg-", "-bcdefgh"} {
		if got := errorsOf(p, "b"); got != bad {
			t.Errorf("prefix %q: errors %v, want ErrArg four times", p, got)
		}
	}
}

// P4.1: the error is the one that the chapter names first, whatever else is wrong.
func TestOrderOfErrors(t *testing.T) {
	long := strings.Repeat("a", api.MaxField+1)
	bad := [4]api.Errno{api.ErrArg, api.ErrArg, api.ErrArg, api.ErrArg}
	if got := errorsOf("W", long); got != bad {
		t.Errorf("a prefix that may not be, a record too long: errors %v", got)
	}
	full := files(file("w.999999", frame(filled(65536))))
	ops, e := Append(full, "w", "a", long)
	wantRefused(t, "Append of no room, then too long", ops, e, api.ErrLong)
	ops, e = Append(full, "w", long, "a")
	wantRefused(t, "Append of too long, then no room", ops, e, api.ErrLong)
	ops, e = Append(full, "9", "a", long)
	wantRefused(t, "Append with all three wrong", ops, e, api.ErrArg)
	ops, e = Append(full, "", "a")
	wantRefused(t, "Append of no room with a wrong prefix", ops, e, api.ErrArg)
	ops, e = Append(full, "W")
	wantRefused(t, "Append of nothing with a wrong prefix", ops, e, api.ErrArg)
	ops, e = Append(full, "w")
	wantPlan(t, "Append of nothing to a full log", ops, e)
	ops, e = Renew(full, "w", long)
	wantRefused(t, "Renew of too long and no room", ops, e, api.ErrLong)
	ops, e = Renew(full, "w!", long)
	wantRefused(t, "Renew with all three wrong", ops, e, api.ErrArg)
	ops, e = Renew(full, "w", "a")
	wantRefused(t, "Renew of no room", ops, e, api.ErrFull)
}

// P4.1: records just at MaxField, and one more.
func TestMaxField(t *testing.T) {
	most := strings.Repeat("m", api.MaxField)
	d := files(file("w.000004", frame("a")))
	ops, e := Append(d, "w", most, "b")
	wantPlan(t, "Append at MaxField", ops, e, opSync("w.000004"), opPut("w.000005", 0, frame(most)), opSync("w.000005"), opPut("w.000006", 0, frame("b")))
	wantOpen(t, "a record at MaxField", do(t, d, ops...), "w", []string{"a", most, "b"})
	ops, e = Append(api.Disk{}, "w", most)
	wantPlan(t, "Append at MaxField to nothing", ops, e, opPut("w.000000", 0, frame(most)))
	ops, e = Renew(d, "w", most)
	wantPlan(t, "Renew at MaxField", ops, e, opPut("w.000006", 0, frame(most)), opSync("w.000006"), opDrop("w.000004"))
	for _, list := range [][]string{{most + "m"}, {"a", most + "m"}, {most + "m", "a"}, {"a", strings.Repeat("m", api.MaxBytes), "b"}} {
		ops, e = Append(d, "w", list...)
		wantRefused(t, "Append above MaxField", ops, e, api.ErrLong)
	}
	ops, e = Renew(d, "w", most+"m")
	wantRefused(t, "Renew above MaxField", ops, e, api.ErrLong)
}

// P4.1: a segment whose bytes with the next frame are just at MaxSeg, and one more; those planned count too.
func TestMaxSeg(t *testing.T) {
	first, last := filled(65000), filled(536)
	d := files(file("w.000007", frame(first)))
	ops, e := Append(d, "w", last, "")
	wantPlan(t, "Append up to MaxSeg", ops, e, opPut("w.000007", 65000, frame(last)), opSync("w.000007"), opPut("w.000008", 0, frame("")))
	ops, e = Append(d, "w", last+"x", "b")
	wantPlan(t, "Append of one more", ops, e, opSync("w.000007"), opPut("w.000008", 0, frame(last+"x")), opPut("w.000008", 537, frame("b")))
	ops, e = Append(api.Disk{}, "w", first, last+"x", last)
	wantPlan(t, "Append to nothing", ops, e, opPut("w.000000", 0, frame(first)), opSync("w.000000"), opPut("w.000001", 0, frame(last+"x")), opPut("w.000001", 537, frame(last)))
	ops, e = Append(api.Disk{}, "w", filled(65536), filled(65537), "", filled(65536))
	wantPlan(t, "Append of one segment each", ops, e, opPut("w.000000", 0, frame(filled(65536))), opSync("w.000000"), opPut("w.000001", 0, frame(filled(65537))),
		opSync("w.000001"), opPut("w.000002", 0, frame("")), opSync("w.000002"), opPut("w.000003", 0, frame(filled(65536))))
}

// P4.1: the bytes of a segment are all of it, whole frames or not, safe or not.
func TestBytesOfASegment(t *testing.T) {
	for _, c := range []struct {
		what string
		f    api.File
		at   int
	}{
		{"no bytes", file("w.000002", ""), 0},
		{"a write of no bytes", file("w.000002", "", api.Write{At: 5}), 0},
		{"bytes that are no frame", file("w.000002", "abc"), 3},
		{"an open write", file("w.000002", "", api.Write{Bytes: frame("a")}), 10},
		{"a write behind the end", file("w.000002", "", api.Write{At: 100, Bytes: "z"}), 101},
		{"a write over the safe ones", file("w.000002", frame("abc"), api.Write{At: 2, Bytes: "z"}), 12},
		{"a frame ahead of a torn one", file("w.000002", frame("a")+"torn"), 14},
	} {
		ops, e := Append(files(c.f), "w", "b")
		wantPlan(t, "Append behind "+c.what, ops, e, opPut("w.000002", c.at, frame("b")))
		ops, e = Append(files(c.f), "w", filled(65536))
		if c.at == 0 {
			wantPlan(t, "Append of a whole segment behind "+c.what, ops, e, opPut("w.000002", 0, frame(filled(65536))))
		} else {
			wantPlan(t, "Append of a whole segment behind "+c.what, ops, e, opSync("w.000002"), opPut("w.000003", 0, frame(filled(65536))))
		}
	}
	d := files(file("w.000002", strings.Repeat("z", 200000)))
	ops, e := Append(d, "w", "b")
	wantPlan(t, "Append behind more than MaxSeg", ops, e, opSync("w.000002"), opPut("w.000003", 0, frame("b")))
}

// P4.1: the number 999999, and one more.
func TestLastNumber(t *testing.T) {
	d := files(file("w.999999", frame(filled(65000))))
	ops, e := Append(d, "w", filled(536))
	wantPlan(t, "Append to 999999", ops, e, opPut("w.999999", 65000, frame(filled(536))))
	ops, e = Append(d, "w", filled(537))
	wantRefused(t, "Append beyond 999999", ops, e, api.ErrFull)
	ops, e = Append(d, "w", "a", filled(526), "b")
	wantRefused(t, "Append of records, the last one beyond 999999", ops, e, api.ErrFull)
	ops, e = Append(files(file("w.999999", "")), "w", filled(70000))
	wantPlan(t, "Append to 999999 without bytes", ops, e, opPut("w.999999", 0, frame(filled(70000))))
	ops, e = Append(files(file("w.999998", frame(filled(65000)))), "w", filled(65000), filled(536))
	wantPlan(t, "Append from 999998", ops, e, opSync("w.999998"), opPut("w.999999", 0, frame(filled(65000))), opPut("w.999999", 65000, frame(filled(536))))
	ops, e = Append(files(file("w.999998", frame(filled(65000)))), "w", filled(65000), filled(537))
	wantRefused(t, "Append from 999998 beyond 999999", ops, e, api.ErrFull)
	ops, e = Sync(d, "w")
	wantPlan(t, "Sync of 999999", ops, e, opSync("w.999999"))
	wantOpen(t, "999999", d, "w", []string{filled(65000)})
	ops, e = Renew(files(file("w.000000", ""), file("w.999997", "")), "w", "a")
	wantPlan(t, "Renew behind 999997", ops, e, opPut("w.999999", 0, frame("a")), opSync("w.999999"), opDrop("w.999997"), opDrop("w.000000"))
	for _, n := range []int{999998, 999999} {
		ops, e = Renew(files(file("w.000000", ""), file(nameOf("w", n), "")), "w", "a")
		wantRefused(t, "Renew beyond 999999", ops, e, api.ErrFull)
	}
}

// P4.1: nothing on the disk, and nothing to do.
func TestEmpty(t *testing.T) {
	other := files(file("v.000000", frame("v")), file("w.00000", frame("x")))
	for _, d := range []api.Disk{{}, files(), other} {
		wantOpen(t, "an empty log", d, "w", nil)
		ops, e := Append(d, "w")
		wantPlan(t, "Append of nothing to an empty log", ops, e)
		ops, e = Sync(d, "w")
		wantPlan(t, "Sync of an empty log", ops, e)
		ops, e = Append(d, "w", "", "a")
		wantPlan(t, "Append to an empty log", ops, e, opPut("w.000000", 0, frame("")), opPut("w.000000", 9, frame("a")))
		ops, e = Renew(d, "w", "")
		wantPlan(t, "Renew of an empty log", ops, e, opPut("w.000000", 0, frame("")), opSync("w.000000"))
	}
	wantOpen(t, "a record of no bytes", files(file("w.000000", frame(""))), "w", []string{""})
}

// P4.1: a log of one run: what is read of it, and what mends it.
func TestOneRun(t *testing.T) {
	a, b, c := frame("a", "aa"), frame("b"), frame("c", "cc", "")
	torn := b[:len(b)-1]
	lost := strings.Repeat("\x00", len(b)) + b
	all := []string{"a", "aa", "b", "c", "cc", ""}
	wantOpen(t, "a whole run", files(file("w.000003", a), file("w.000004", b), file("w.000005", c)), "w", all)
	wantOpen(t, "a run out of order", files(file("w.000005", c), file("w.000003", a), file("w.000004", b)), "w", all)
	wantOpen(t, "a torn last one", files(file("w.000003", a), file("w.000004", torn)), "w", all[:2], opCut("w.000004", 0))
	wantOpen(t, "a last one whose second is torn", files(file("w.000003", a+torn)), "w", all[:2], opCut("w.000003", 21))
	wantOpen(t, "a torn one in the midst", files(file("w.000003", a), file("w.000004", b+torn), file("w.000005", c), file("w.000006", c)), "w", all[:3],
		opDrop("w.000006"), opDrop("w.000005"), opCut("w.000004", 10))
	wantOpen(t, "a torn first one", files(file("w.000003", a+"x"), file("w.000004", b+torn), file("w.000005", c)), "w", all[:2],
		opDrop("w.000005"), opDrop("w.000004"), opCut("w.000003", 21))
	wantOpen(t, "no frame in the midst", files(file("w.000003", a), file("w.000004", lost), file("w.000005", c)), "w", all[:2],
		opDrop("w.000005"), opCut("w.000004", 0))
	wantOpen(t, "a lost one in the midst", files(file("w.000003", a+lost+c)), "w", all[:2], opCut("w.000003", 21))
	wantOpen(t, "no bytes in the midst and at the end", files(file("w.000003", a), file("w.000004", ""), file("w.000005", b), file("w.000006", "")), "w", all[:3])
	wantOpen(t, "no frame at first", files(file("w.000003", torn), file("w.000004", b)), "w", nil, opDrop("w.000004"), opDrop("w.000003"))
	wantOpen(t, "no bytes at first", files(file("w.000003", ""), file("w.000004", b)), "w", nil, opDrop("w.000004"), opDrop("w.000003"))
	wantOpen(t, "open writes", files(file("w.000003", a, api.Write{At: 21, Bytes: b}), file("w.000004", "xx", api.Write{Bytes: c})), "w", all)
	wantOpen(t, "an open write that is torn", files(file("w.000003", a, api.Write{At: 21, Bytes: b}, api.Write{At: 31, Bytes: "x"})), "w", all[:3], opCut("w.000003", 31))
}

// P4.1: several runs: which is the log, and what comes behind and ahead of it.
func TestSeveralRuns(t *testing.T) {
	a, b, c := frame("a"), frame("b"), frame("c")
	wantOpen(t, "a later run", files(file("w.000000", a), file("w.000001", b), file("w.000003", c)), "w", []string{"c"}, opDrop("w.000001"), opDrop("w.000000"))
	wantOpen(t, "a later run whose first has no whole frame", files(file("w.000000", a), file("w.000001", b), file("w.000003", c[:9]), file("w.000004", c)), "w", []string{"a", "b"},
		opDrop("w.000004"), opDrop("w.000003"))
	wantOpen(t, "a later run without bytes", files(file("w.000000", a), file("w.000002", "")), "w", []string{"a"}, opDrop("w.000002"))
	wantOpen(t, "a later run that begins with noughts", files(file("w.000000", a), file("w.000002", strings.Repeat("\x00", 20)+c)), "w", []string{"a"}, opDrop("w.000002"))
	wantOpen(t, "one number left out, and many", files(file("w.000001", a), file("w.000003", b), file("w.999999", "")), "w", []string{"b"}, opDrop("w.999999"), opDrop("w.000001"))
	wantOpen(t, "an earlier run that is torn", files(file("w.000000", a+"x"), file("w.000001", b), file("w.000003", c)), "w", []string{"c"}, opDrop("w.000001"), opDrop("w.000000"))
	wantOpen(t, "runs ahead of a torn log and behind it", files(
		file("w.000000", a), file("w.000001", a),
		file("w.000003", b), file("w.000004", b+"x"), file("w.000005", b), file("w.000006", b),
		file("w.000010", "x"), file("w.000011", c),
		file("w.000100", "")), "w", []string{"b", "b"},
		opDrop("w.000100"), opDrop("w.000011"), opDrop("w.000010"),
		opDrop("w.000006"), opDrop("w.000005"), opCut("w.000004", 10),
		opDrop("w.000001"), opDrop("w.000000"))
	wantOpen(t, "no log in any run", files(file("w.000000", "x"), file("w.000001", a), file("w.000003", "x")), "w", nil, opDrop("w.000003"), opDrop("w.000001"), opDrop("w.000000"))
	wantOpen(t, "a first one that has an open write over its frame", files(file("w.000000", a), file("w.000002", c, api.Write{Bytes: "\xff"})), "w", []string{"a"}, opDrop("w.000002"))
	d := files(file("w.000009", ""), file("w.000000", a), file("w.000004", b))
	ops, e := Append(d, "w", "x")
	wantPlan(t, "Append to several runs", ops, e, opPut("w.000009", 0, frame("x")))
	ops, e = Sync(d, "w")
	wantPlan(t, "Sync of several runs", ops, e, opSync("w.000009"))
	ops, e = Renew(d, "w", "x")
	wantPlan(t, "Renew of several runs", ops, e, opPut("w.000011", 0, frame("x")), opSync("w.000011"), opDrop("w.000009"), opDrop("w.000004"), opDrop("w.000000"))
}

// P4.1: files of other names, and names that only look like a segment's, are none of the log's; of a name twice there the first file holds.
func TestOtherFiles(t *testing.T) {
	var d api.Disk
	for _, name := range []string{"w.00000", "w.0000000", "w.0000009", "w.1000000", "w.00000a", "w.a00000", "w.-00009", "w.+00009", "w. 00009", "w.0x0009", "w.0_0009", "w.1e0009",
		"w000009", "w-000009", "w..00009", "w.000.09", "W.000009", "w.000009.", ".000009", "ww.000009", "aw.000009", "v.000009", "x.000009", "w", "w.", "", "w.000009\x00", "w.00000٣", "w.00000:", "w.00000/", "w.:00000"} {
		d.Files = append(d.Files, file(name, frame("no")+"x"))
	}
	wantOpen(t, "a disk of other files", d, "w", nil)
	ops, e := Append(d, "w", "a")
	wantPlan(t, "Append beside other files", ops, e, opPut("w.000000", 0, frame("a")))
	ops, e = Sync(d, "w")
	wantPlan(t, "Sync beside other files", ops, e)
	ops, e = Renew(d, "w", "a")
	wantPlan(t, "Renew beside other files", ops, e, opPut("w.000000", 0, frame("a")), opSync("w.000000"))
	d.Files = append(d.Files, file("w.000003", frame("a")+"t"), file("w.000003", frame("twice")), file("w.000001", ""), file("w.000001", frame("twice")))
	wantOpen(t, "a log among other files", d, "w", []string{"a"}, opCut("w.000003", 10), opDrop("w.000001"))
	ops, e = Append(d, "w", "b")
	wantPlan(t, "Append among other files", ops, e, opPut("w.000003", 11, frame("b")))
	ops, e = Sync(d, "w")
	wantPlan(t, "Sync among other files", ops, e, opSync("w.000003"))
	ops, e = Renew(d, "w", "b")
	wantPlan(t, "Renew among other files", ops, e, opPut("w.000005", 0, frame("b")), opSync("w.000005"), opDrop("w.000003"), opDrop("w.000001"))
	wantOpen(t, "another prefix of the same disk", d, "ww", []string{"no"}, opCut("ww.000009", 11))
}

// P4.1: of very many files of few names the first of each holds.
func TestFirstOfAName(t *testing.T) {
	var d api.Disk
	var records []string
	for i := range 200 {
		name := nameOf("w", 19-i%20)
		if i < 20 {
			d.Files = append(d.Files, file(name, frame(name)))
			records = append([]string{name}, records...)
		} else {
			d.Files = append(d.Files, file(name, frame("twice")+"x"))
		}
	}
	wantOpen(t, "files of few names", d, "w", records)
	ops, e := Append(d, "w", "a")
	wantPlan(t, "Append to files of few names", ops, e, opPut("w.000019", 17, frame("a")))
}

// P4.1: each call answers by the chapter's words for disks of any kind.
func TestSomeDisks(t *testing.T) {
	r := rand.New(rand.NewSource(41))
	for range 2000 {
		d := someDisk(r)
		records, mend := openOf(d, "w")
		wantOpen(t, "some disk", d, "w", records, mend...)
		var list []string
		for range r.Intn(4) {
			list = append(list, someRecord(r))
			if r.Intn(5) == 0 {
				list = append(list, strings.Repeat("l", one(r, 65500, 65527, 131072, 131073)))
			}
		}
		got, e := Append(d, "w", list...)
		if want, error := appendOf(d, "w", list...); e != error || !slices.Equal(got, want) {
			t.Fatalf("Append to %.300v: error %d, %.300v, want error %d, %.300v", d, e, got, error, want)
		}
		got, e = Sync(d, "w")
		wantPlan(t, "Sync of some disk", got, e, syncOfLast(d, "w")...)
		record := someRecord(r)
		if r.Intn(10) == 0 {
			record = strings.Repeat("l", one(r, 131072, 131073))
		}
		got, e = Renew(d, "w", record)
		if want, error := renewOf(d, "w", record); e != error || !slices.Equal(got, want) {
			t.Fatalf("Renew of %.300v: error %d, %.300v, want error %d, %.300v", d, e, got, error, want)
		}
		if t.Failed() {
			t.Fatalf("the disk: %.2000v", d)
		}
	}
}

// P4.2: of what was appended a crash leaves a beginning, with all that was followed by Sync, wherever the power fails and whatever it takes.
func TestBeginningSmall(t *testing.T) {
	list := []string{"a", "", "ccc", "dd"}
	for k := range len(list) + 1 {
		d := files(file("other", "o"), file("v.000000", frame("v")))
		d = do(t, d, plan(t)(Append(d, "w", list[:k]...))...)
		d = do(t, d, plan(t)(Sync(d, "w"))...)
		ops := plan(t)(Append(d, "w", list[k:]...))
		ops = append(ops, plan(t)(Sync(do(t, d, ops...), "w"))...)
		for n := range len(ops) + 1 {
			some := do(t, d, ops[:n]...)
			for _, c := range crashes(some) {
				got, _ := opened(t, c, "w")
				if !begin(got, list) || len(got) < k || n == len(ops) && len(got) < len(list) {
					t.Fatalf("%d records followed by Sync, %d operations more, a crash to %v: Open tells %q", k, n, c, got)
				}
				wantMended(t, "a crash of Append", c, "w")
			}
		}
	}
}

// P4.2: the same over the end of a segment, each operation being the point at which the power fails.
func TestBeginningOverSegments(t *testing.T) {
	list := []string{filled(40000), filled(20000), filled(30000), filled(30000), "e", filled(70000), "g"}
	for k := range len(list) + 1 {
		d := do(t, api.Disk{}, plan(t)(Append(api.Disk{}, "w", list[:k]...))...)
		d = do(t, d, plan(t)(Sync(d, "w"))...)
		ops := plan(t)(Append(d, "w", list[k:]...))
		ops = append(ops, plan(t)(Sync(do(t, d, ops...), "w"))...)
		for n := range len(ops) + 1 {
			for _, c := range crashes(do(t, d, ops[:n]...)) {
				got, _ := opened(t, c, "w")
				if !begin(got, list) || len(got) < k || n == len(ops) && len(got) < len(list) {
					t.Fatalf("%d records followed by Sync, %d operations more: Open tells %d records", k, n, len(got))
				}
				if n%3 == 0 {
					wantMended(t, "a crash of Append over segments", c, "w")
				}
			}
		}
	}
}

// play: a log that is appended to, made safe, broken by crashes, mended, and begun anew.
type play struct {
	t       *testing.T
	r       *rand.Rand
	d       api.Disk
	records []string // all that may be there
	safe    int      // how many of them have to be
}

// some: a beginning of the plan, now and then all of it; was it all?
func (p *play) some(ops []api.DiskOp) bool {
	n := len(ops)
	if p.r.Intn(3) == 0 {
		n = p.r.Intn(n + 1)
	}
	p.d = do(p.t, p.d, ops[:n]...)
	return n == len(ops)
}

// crash: the power fails; Open tells what has to be there, and mends it.
func (p *play) crash(anew []string, done bool) {
	p.d = someCrash(p.r, p.d)
	got, _ := opened(p.t, p.d, "w")
	old := begin(got, p.records) && len(got) >= p.safe
	if new := slices.Equal(got, anew) && len(anew) > 0; !new && (!old || done) {
		p.t.Fatalf("Open tells %.200q; of %.200q %d were safe; anew %.200q, done: %v", got, p.records, p.safe, anew, done)
	}
	p.d = wantMended(p.t, "a play", p.d, "w")
	p.records, p.safe = got, len(got)
}

func (p *play) step() {
	switch p.r.Intn(8) {
	case 0, 1, 2, 3:
		var list []string
		for range p.r.Intn(4) {
			list = append(list, one(p.r, someRecord(p.r), someRecord(p.r), someRecord(p.r), filled(one(p.r, 20000, 40000, 65536))))
		}
		all := p.some(plan(p.t)(Append(p.d, "w", list...)))
		p.records = append(p.records, list...)
		if !all {
			p.crash(nil, false)
		}
	case 4, 5:
		if p.some(plan(p.t)(Sync(p.d, "w"))) {
			p.safe = len(p.records)
		} else {
			p.crash(nil, false)
		}
	case 6:
		p.crash(nil, false)
	case 7:
		record := "anew " + strconv.Itoa(p.r.Int())
		if all := p.some(plan(p.t)(Renew(p.d, "w", record))); !all || p.r.Intn(2) == 0 {
			p.crash([]string{record}, all)
		} else {
			p.records, p.safe = []string{record}, 1
		}
	}
}

// P4.2, P4.3: plays of any kind.
func TestPlays(t *testing.T) {
	r := rand.New(rand.NewSource(42))
	others := files(file("other", "o"), file("v.000000", frame("v")), file("w.00000", frame("x")))
	for range 150 {
		p := play{t: t, r: r, d: twin(others)}
		for range 40 {
			p.step()
		}
		p.crash(nil, false)
		if got := othersOf(p.d, "w"); !sameDisk(got, others) {
			t.Fatalf("other files were changed: %.300v, want %.300v", got, others)
		}
	}
}

// P4.3: wherever the power fails in Renew and whatever it takes, what was safe is there, or the one record; the one record when its segment is safe.
func TestAnewOrNot(t *testing.T) {
	long := filled(60000)
	for _, c := range []struct {
		what string
		d    api.Disk
		safe []string
		all  []string
	}{
		{"nothing", api.Disk{}, nil, nil},
		{"a record", files(file("w.000000", frame("a"))), []string{"a"}, []string{"a"}},
		{"records that are open", files(file("w.000000", frame("a"), api.Write{At: 10, Bytes: frame("b")}, api.Write{At: 20, Bytes: frame("c")})), []string{"a"}, []string{"a", "b", "c"}},
		{"records of which none is safe", files(file("w.000000", "", api.Write{Bytes: frame("b")}, api.Write{At: 10, Bytes: frame("c")})), nil, []string{"b", "c"}},
		{"segments", files(file("w.000002", frame("a", long)), file("w.000003", frame(long)), file("w.000004", "", api.Write{Bytes: frame("b")})), []string{"a", long, long}, []string{"a", long, long, "b"}},
		{"an earlier Renew that was broken off", files(file("w.000000", frame("x")), file("w.000001", frame("y")), file("w.000003", frame("a"), api.Write{At: 10, Bytes: frame("b")})), []string{"a"}, []string{"a", "b"}},
		{"a log just behind a lost Renew", files(file("w.000000", frame("a")), file("w.000002", "")), []string{"a"}, []string{"a"}},
		{"other files", files(file("v.000000", frame("v")), file("w.000000", frame("a")), file("ww.000009", frame("ww"))), []string{"a"}, []string{"a"}},
	} {
		ops := plan(t)(Renew(c.d, "w", "the one"))
		for n := range len(ops) + 1 {
			for _, d := range crashes(do(t, c.d, ops[:n]...)) {
				got, _ := opened(t, d, "w")
				old := begin(got, c.all) && begin(c.safe, got)
				if anew := slices.Equal(got, []string{"the one"}); n > 1 && !anew || !anew && !old || n == 0 && anew {
					t.Fatalf("%s, behind %d operations: Open tells %.200q", c.what, n, got)
				}
				d = wantMended(t, c.what, d, "w")
				ops := plan(t)(Append(d, "w", "more"))
				ops = append(ops, opSync(ops[len(ops)-1].Name))
				wantOpen(t, c.what+", and more appended", disk.Crash(do(t, d, ops...)), "w", append(got[:len(got):len(got)], "more"))
			}
		}
		if d := do(t, c.d, ops...); len(segmentsOf(d, "w")) != 1 || !sameDisk(othersOf(d, "w"), othersOf(c.d, "w")) {
			t.Errorf("%s: behind Renew the disk is %.300v", c.what, d)
		}
	}
}

// P4.2: behind any beginning of Open's plan Open tells the same, on disks of any kind with nothing open.
func TestMending(t *testing.T) {
	r := rand.New(rand.NewSource(43))
	for range 1500 {
		d := disk.Crash(someDisk(r))
		// Names that may not be can't be worked on, nor a name that is there twice be dropped.
		var good api.Disk
		for _, f := range d.Files {
			if disk.Name(f.Name) && !slices.ContainsFunc(good.Files, func(g api.File) bool { return g.Name == f.Name }) {
				good.Files = append(good.Files, f)
			}
		}
		wantMended(t, "some disk", good, "w")
	}
}

// P1 and the rule on what is handed in: it stays as it is, its spare room too, and no answer hangs on an earlier one.
func TestHandedInStays(t *testing.T) {
	r := rand.New(rand.NewSource(44))
	for range 300 {
		d := someDisk(r)
		room := append(slices.Clone(d.Files), file("room", "r"))
		d.Files = room[:len(room)-1]
		list := []string{someRecord(r), filled(60000), someRecord(r), "room"}
		was, wasList := twin(d), slices.Clone(list)
		records, mend, _ := Open(d, "w")
		put, e := Append(d, "w", list[:3]...)
		safe, _ := Sync(d, "w")
		anew, f := Renew(d, "w", "a")
		if !sameDisk(d, was) || !sameFile(room[len(room)-1], file("room", "r")) || !slices.Equal(list, wasList) {
			t.Fatalf("what was handed in was changed: %.300v, it was %.300v", d, was)
		}
		for _, ops := range [][]api.DiskOp{mend, put, safe, anew} {
			for i := range ops {
				ops[i] = opDrop("changed")
			}
		}
		for i := range records {
			records[i] = "changed"
		}
		wantRecords, wantMend := openOf(d, "w")
		wantOpen(t, "the same disk again", d, "w", wantRecords, wantMend...)
		if again, g := Append(d, "w", list[:3]...); e != g || slices.Contains(again, opDrop("changed")) {
			t.Errorf("Append again: error %d, %.300v", g, again)
		}
		again, _ := Sync(d, "w")
		wantPlan(t, "Sync again", again, api.OK, syncOfLast(d, "w")...)
		if again, g := Renew(d, "w", "a"); f != g || slices.Contains(again, opDrop("changed")) {
			t.Errorf("Renew again: error %d, %.300v", g, again)
		}
	}
}

// P1: no call panics, whatever it is given, and beside an error there is nothing.
func TestAnything(t *testing.T) {
	r := rand.New(rand.NewSource(45))
	for range 2000 {
		d := someDisk(r)
		p := one(r, "w", "", "W", "w.", "abcdefghi", "\xff", "ww", "\x00", strings.Repeat("w", r.Intn(20)))
		for range r.Intn(3) {
			d.Files = append(d.Files, file(p+"."+one(r, "000000", "000001", "999999", ""), someBytes(r), api.Write{At: one(r, math.MinInt, math.MaxInt, 3), Bytes: "b"}))
		}
		Name(p, one(r, math.MinInt, -1, 0, 1000000, math.MaxInt))
		records, mend, e := Open(d, p)
		if e != api.OK && (records != nil || mend != nil) {
			t.Errorf("Open: error %d beside %q, %v", e, records, mend)
		}
		list := []string{someRecord(r), strings.Repeat("a", one(r, 0, 0, 0, 65527, 65528, 131072, 131073))}
		put, e := Append(d, p, list[:r.Intn(3)]...)
		if e != api.OK && put != nil {
			t.Errorf("Append: error %d beside %v", e, put)
		}
		safe, e := Sync(d, p)
		if e != api.OK && safe != nil {
			t.Errorf("Sync: error %d beside %v", e, safe)
		}
		anew, e := Renew(d, p, list[1])
		if e != api.OK && anew != nil {
			t.Errorf("Renew: error %d beside %v", e, anew)
		}
	}
}

// P1: a disk of very many segments is read and planned on in good time.
func TestManySegments(t *testing.T) {
	var d api.Disk
	var records []string
	for n := 99999; n >= 0; n-- {
		d.Files = append(d.Files, file(nameOf("w", n), frame(strconv.Itoa(99999-n))))
		records = append(records, strconv.Itoa(len(records)))
	}
	slices.Reverse(records)
	wantOpen(t, "very many segments", d, "w", records)
	ops, e := Renew(d, "w", "a")
	if e != api.OK || len(ops) != 100002 || ops[0] != opPut("w.100001", 0, frame("a")) || ops[2] != opDrop("w.099999") || ops[100001] != opDrop("w.000000") {
		t.Errorf("Renew of very many segments: error %d, %d operations", e, len(ops))
	}
	ops, e = Append(d, "w", "a")
	wantPlan(t, "Append to very many segments", ops, e, opPut("w.099999", 10, frame("a")))
}
