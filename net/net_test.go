package net

import (
	"math"
	"math/rand"
	"slices"
	"strconv"
	"strings"
	"testing"

	"tandem/api"
)

func packet(id, from, to int, due uint64, body string) api.Packet {
	return api.Packet{ID: id, From: from, To: to, Due: due, Body: body}
}

func same(a, b api.Net) bool {
	return slices.Equal(a.Bag, b.Bag) && a.Next == b.Next && a.Now == b.Now && a.Side == b.Side
}

// twin: the same net made apart from the program.
func twin(n api.Net) api.Net {
	return api.Net{Bag: slices.Clone(n.Bag), Next: n.Next, Now: n.Now, Side: n.Side}
}

// many: a net with so many packets that may come through.
func many(size int) api.Net {
	n := api.Net{Next: size, Now: 3}
	for i := range size {
		n.Bag = append(n.Bag, packet(i, i%7, (i+1)%7, 3, "p"))
	}
	return n
}

func wantNet(t *testing.T, what string, got, want api.Net) {
	t.Helper()
	if !same(got, want) {
		t.Errorf("%s: %.300v, want %.300v", what, got, want)
	}
}

// wantDone: there is no error, and the net is that one.
func wantDone(t *testing.T, what string, got api.Net, e api.Errno, want api.Net) {
	t.Helper()
	if e != api.OK {
		t.Errorf("%s: error %d", what, e)
	}
	wantNet(t, what, got, want)
}

// wantRefused: there is that error, and no net beside it.
func wantRefused(t *testing.T, what string, got api.Net, e, want api.Errno) {
	t.Helper()
	if e != want || !same(got, api.Net{}) {
		t.Errorf("%s: error %d, %.300v, want error %d alone", what, e, got, want)
	}
}

func wantReady(t *testing.T, what string, n api.Net, want ...int) {
	t.Helper()
	if got := Ready(n); !slices.Equal(got, want) {
		t.Errorf("Ready of %s: %v, want %v", what, got, want)
	}
}

// passes: may the packet come through, by the chapter's words and apart from the program?
func passes(n api.Net, p api.Packet) bool {
	for a, one := range n.Side {
		for b, other := range n.Side {
			if p.From == a && p.To == b && one == other {
				return !(p.Due > n.Now)
			}
		}
	}
	return false
}

// lacks: the packets without the one at place k, made apart from the program.
func lacks(bag []api.Packet, k int) []api.Packet {
	var left []api.Packet
	for i, p := range bag {
		if i != k {
			left = append(left, p)
		}
	}
	return left
}

// one: one of the numbers.
func one[T any](r *rand.Rand, of ...T) T { return of[r.Intn(len(of))] }

func someMember(r *rand.Rand) int {
	if r.Intn(8) == 0 {
		return one(r, -1, 7, 8, math.MaxInt, math.MinInt)
	}
	return r.Intn(7)
}

// someNet: a net of any kind: members that are none, IDs twice the same, a bag that is full or more than that.
func someNet(r *rand.Rand) api.Net {
	n := api.Net{Next: one(r, 0, 1, 77, -5), Now: one[uint64](r, 0, 1, 5, 9, 1<<60, 1<<60+1, math.MaxUint64)}
	for i := range n.Side {
		n.Side[i] = one(r, 0, 0, 0, 1, -1, math.MinInt)
	}
	size := r.Intn(9)
	if r.Intn(12) == 0 {
		size = one(r, 511, 512, 513, 600)
	}
	for range size {
		due := one[uint64](r, 0, 1, 4, 5, 6, n.Now, n.Now+1, math.MaxUint64)
		n.Bag = append(n.Bag, packet(r.Intn(4), someMember(r), someMember(r), due, one(r, "", "a", "\x00\xff", "bb")))
	}
	return n
}

// P3.1: the chapter's example.
func TestExample(t *testing.T) {
	n, e := Send(api.Net{}, 0, 1, 1, "hello")
	wantDone(t, "Send with delay 1", n, e, api.Net{Bag: []api.Packet{packet(0, 0, 1, 1, "hello")}, Next: 1})
	wantReady(t, "Send with delay 1", n)
	got, p, e := Take(n, 0)
	wantRefused(t, "Take of one that isn't due", got, e, api.ErrNet)
	if p != (api.Packet{}) {
		t.Errorf("Take of one that isn't due: %v", p)
	}
	n, e = Wait(n, 1)
	wantDone(t, "Wait(1)", n, e, api.Net{Bag: []api.Packet{packet(0, 0, 1, 1, "hello")}, Next: 1, Now: 1})
	wantReady(t, "Wait(1)", n, 0)
	n, p, e = Take(n, 0)
	wantDone(t, "Take", n, e, api.Net{Next: 1, Now: 1})
	if p != packet(0, 0, 1, 1, "hello") {
		t.Errorf("Take: %v", p)
	}
}

// P3.1: a packet stands behind all others, with the next ID, and is due from now on.
func TestSend(t *testing.T) {
	old := []api.Packet{packet(9, 1, 2, 4, "old"), packet(9, -1, 8, 0, "odd")}
	n := api.Net{Bag: old, Next: 40, Now: 100, Side: [7]int{6: 3}}
	want := api.Net{Bag: append(slices.Clone(old), packet(40, 6, 0, 107, "new")), Next: 41, Now: 100, Side: [7]int{6: 3}}
	got, e := Send(n, 6, 0, 7, "new")
	wantDone(t, "Send", got, e, want)
	got, e = Send(got, 2, 2, 0, "")
	want.Bag, want.Next = append(want.Bag, packet(41, 2, 2, 100, "")), 42
	wantDone(t, "Send of nothing to oneself", got, e, want)
	wantReady(t, "both", got, 0, 3)
	for _, next := range []int{-3, -1, math.MaxInt, math.MinInt} {
		got, e = Send(api.Net{Next: next}, 0, 1, 0, "x")
		wantDone(t, "Send with an odd Next", got, e, api.Net{Bag: []api.Packet{packet(next, 0, 1, 0, "x")}, Next: next + 1})
	}
}

// P3.1: members 0 and 6, and -1 and 7.
func TestSendMembers(t *testing.T) {
	n := many(2)
	for from := -2; from < 10; from++ {
		for to := -2; to < 10; to++ {
			got, e := Send(n, from, to, 1, "x")
			if from < 0 || from > 6 || to < 0 || to > 6 {
				wantRefused(t, "Send of no member", got, e, api.ErrArg)
				continue
			}
			want := twin(n)
			want.Bag, want.Next = append(want.Bag, packet(2, from, to, 4, "x")), 3
			wantDone(t, "Send of members", got, e, want)
		}
	}
	for _, odd := range []int{math.MinInt, math.MaxInt, math.MinInt32, math.MaxInt32, 1 << 32} {
		got, e := Send(n, odd, 0, 1, "x")
		wantRefused(t, "Send from far off", got, e, api.ErrArg)
		got, e = Send(n, 0, odd, 1, "x")
		wantRefused(t, "Send to far off", got, e, api.ErrArg)
	}
}

// P3.1: a delay just at 2^16, a Now just at 2^60, a body just at 2^20 bytes, and one more of each.
func TestSendLimits(t *testing.T) {
	for _, delay := range []uint64{0, 1, 1<<16 - 1, 1 << 16} {
		for _, now := range []uint64{0, 1<<60 - 1, 1 << 60} {
			got, e := Send(api.Net{Now: now}, 0, 1, delay, "x")
			wantDone(t, "Send at the limits", got, e, api.Net{Bag: []api.Packet{packet(0, 0, 1, now+delay, "x")}, Next: 1, Now: now})
		}
	}
	for _, delay := range []uint64{1<<16 + 1, 1 << 32, 1 << 63, math.MaxUint64} {
		got, e := Send(api.Net{}, 0, 1, delay, "x")
		wantRefused(t, "Send with too great a delay", got, e, api.ErrArg)
	}
	for _, now := range []uint64{1<<60 + 1, 1 << 63, math.MaxUint64} {
		got, e := Send(api.Net{Now: now}, 0, 1, 0, "x")
		wantRefused(t, "Send too late", got, e, api.ErrArg)
	}
	full := strings.Repeat("b", 1<<20)
	got, e := Send(api.Net{}, 0, 1, 0, full)
	wantDone(t, "Send of 2^20 bytes", got, e, api.Net{Bag: []api.Packet{packet(0, 0, 1, 0, full)}, Next: 1})
	got, e = Send(api.Net{}, 0, 1, 0, full+"b")
	wantRefused(t, "Send of 2^20 + 1 bytes", got, e, api.ErrLong)
}

// P3.1: a Bag just below MaxBag, at it and above it, for all calls.
func TestMaxBag(t *testing.T) {
	for size := 510; size < 515; size++ {
		n := many(size)
		more := twin(n)
		sent, e := Send(n, 1, 2, 5, "x")
		again, f := Twice(n, 7)
		if size >= 512 {
			wantRefused(t, "Send into a full net", sent, e, api.ErrFull)
			wantRefused(t, "Twice in a full net", again, f, api.ErrFull)
		} else {
			more.Bag, more.Next = append(more.Bag, packet(size, 1, 2, 8, "x")), size+1
			wantDone(t, "Send into a net with room", sent, e, more)
			more.Bag[size], more.Next = n.Bag[7], size
			wantDone(t, "Twice in a net with room", again, f, more)
		}
		less := twin(n)
		less.Bag = lacks(n.Bag, 7)
		got, p, e := Take(n, 7)
		wantDone(t, "Take", got, e, less)
		if p != n.Bag[7] {
			t.Errorf("Take: %v", p)
		}
		got, e = Lose(n, 7)
		wantDone(t, "Lose", got, e, less)
		late := twin(n)
		late.Now += 9
		got, e = Wait(n, 9)
		wantDone(t, "Wait", got, e, late)
		wantNet(t, "Copy", Copy(n), n)
		wantNet(t, "Part", Part(n, n.Side), n)
		if got := Ready(n); len(got) != size || got[size-1] != size-1 {
			t.Errorf("Ready of %d packets: %d", size, len(got))
		}
	}
}

// P3.1: of several wrong things at once the first one is told.
func TestOrderOfErrors(t *testing.T) {
	long := strings.Repeat("b", 1<<20+1)
	full, late, both := many(512), api.Net{Now: 1<<60 + 1}, many(512)
	both.Now = 1<<60 + 1
	cases := []struct {
		what     string
		n        api.Net
		from, to int
		delay    uint64
		body     string
		want     api.Errno
	}{
		{"from and the body", api.Net{}, -1, 0, 0, long, api.ErrArg},
		{"to and the body", api.Net{}, 0, 7, 0, long, api.ErrArg},
		{"the delay and the body", api.Net{}, 0, 1, 1<<16 + 1, long, api.ErrArg},
		{"Now and the body", late, 0, 1, 0, long, api.ErrArg},
		{"from and the bag", full, 7, 0, 0, "x", api.ErrArg},
		{"to and the bag", full, 0, -1, 0, "x", api.ErrArg},
		{"the delay and the bag", full, 0, 1, 1<<16 + 1, "x", api.ErrArg},
		{"Now and the bag", both, 0, 1, 0, "x", api.ErrArg},
		{"all of them", both, 8, -9, math.MaxUint64, long, api.ErrArg},
		{"the body and the bag", full, 0, 1, 0, long, api.ErrLong},
		{"the bag alone", full, 0, 1, 0, "x", api.ErrFull},
	}
	for _, c := range cases {
		got, e := Send(c.n, c.from, c.to, c.delay, c.body)
		wantRefused(t, "Send with wrong "+c.what, got, e, c.want)
	}
	for _, k := range []int{-1, 512, 513, math.MinInt, math.MaxInt} {
		got, e := Twice(full, k)
		wantRefused(t, "Twice of no place in a full net", got, e, api.ErrNet)
	}
	full.Bag[3].Due = 4
	got, e := Twice(full, 3)
	wantRefused(t, "Twice of one that isn't due in a full net", got, e, api.ErrFull)
	got, e = Wait(late, 1<<16+1)
	wantRefused(t, "Wait too late and too long", got, e, api.ErrArg)
}

// P3.1: places -1, the first, the last, and one past it.
func TestPlaces(t *testing.T) {
	for size := range 5 {
		n := many(size)
		for _, k := range []int{-1, size, size + 1, math.MinInt, math.MaxInt, math.MinInt32, math.MaxInt32} {
			got, p, e := Take(n, k)
			wantRefused(t, "Take of no place", got, e, api.ErrNet)
			if p != (api.Packet{}) {
				t.Errorf("Take of no place: %v", p)
			}
			got, e = Lose(n, k)
			wantRefused(t, "Lose of no place", got, e, api.ErrNet)
			got, e = Twice(n, k)
			wantRefused(t, "Twice of no place", got, e, api.ErrNet)
		}
		for k := range size {
			less, more := twin(n), twin(n)
			less.Bag, more.Bag = lacks(n.Bag, k), append(more.Bag, n.Bag[k])
			got, p, e := Take(n, k)
			wantDone(t, "Take", got, e, less)
			if p != n.Bag[k] {
				t.Errorf("Take of place %d: %v", k, p)
			}
			got, e = Lose(n, k)
			wantDone(t, "Lose", got, e, less)
			got, e = Twice(n, k)
			wantDone(t, "Twice", got, e, more)
		}
	}
}

// P3.1: ticks just at 2^16, a Now just at 2^60, and one more of each.
func TestWait(t *testing.T) {
	n := many(3)
	for _, ticks := range []uint64{0, 1, 1<<16 - 1, 1 << 16} {
		for _, now := range []uint64{0, 1, 1<<60 - 1, 1 << 60} {
			want := twin(n)
			n.Now, want.Now = now, now+ticks
			got, e := Wait(n, ticks)
			wantDone(t, "Wait at the limits", got, e, want)
		}
	}
	n.Now = 0
	for _, ticks := range []uint64{1<<16 + 1, 1 << 32, 1 << 63, math.MaxUint64} {
		got, e := Wait(n, ticks)
		wantRefused(t, "Wait for too long", got, e, api.ErrArg)
	}
	for _, now := range []uint64{1<<60 + 1, 1 << 63, math.MaxUint64} {
		got, e := Wait(api.Net{Now: now}, 0)
		wantRefused(t, "Wait too late", got, e, api.ErrArg)
	}
}

// P3.1: a Due just at Now and one more, and one less.
func TestDue(t *testing.T) {
	for _, now := range []uint64{1, 100, 1 << 60, 1 << 63, math.MaxUint64 - 1} {
		n := api.Net{Now: now}
		for _, due := range []uint64{now + 1, now, now - 1, 0, math.MaxUint64} {
			n.Bag = append(n.Bag, packet(0, 0, 1, due, ""))
		}
		wantReady(t, "packets that are due, and not", n, 1, 2, 3)
	}
	wantReady(t, "the last time", api.Net{Now: math.MaxUint64, Bag: []api.Packet{packet(0, 0, 1, math.MaxUint64, "")}}, 0)
}

// P3.1: who is of one side, and members -1, 0, 6 and 7.
func TestSides(t *testing.T) {
	var n api.Net
	sides := [7]int{0, 1, 0, 1, math.MinInt, 7, math.MinInt}
	var want []int
	for from := -2; from < 9; from++ {
		for to := -2; to < 9; to++ {
			together := from >= 0 && from < 7 && to >= 0 && to < 7 && sides[from] == sides[to]
			if together {
				want = append(want, len(n.Bag))
			}
			n.Bag = append(n.Bag, packet(0, from, to, 0, "x"))
		}
	}
	n.Bag = append(n.Bag, packet(0, math.MinInt, math.MinInt, 0, ""), packet(0, math.MaxInt, 0, 0, ""), packet(0, 6, 4, 0, ""))
	parted := Part(n, sides)
	wantReady(t, "a net in parts", parted, append(want, len(n.Bag)-1)...)
	wantNet(t, "Part", parted, api.Net{Bag: n.Bag, Side: sides})
	whole := Part(parted, [7]int{5, 5, 5, 5, 5, 5, 5})
	if got := len(Ready(whole)); got != 50 {
		t.Errorf("Ready of a net of one side: %d, want 50", got)
	}
	wantNet(t, "Part back", Part(whole, n.Side), n)
}

// P3.1, P3.2: each place of all kinds of nets, held against the chapter's words; Ready tells just what can be taken.
func TestSomeNets(t *testing.T) {
	r := rand.New(rand.NewSource(1))
	for range 3000 {
		n := someNet(r)
		wantNet(t, "Copy", Copy(n), n)
		ready := Ready(n)
		if !slices.IsSorted(ready) {
			t.Fatalf("Ready doesn't rise: %v", ready)
		}
		first := r.Intn(len(n.Bag) + 1)
		for k := first; k < min(first+12, len(n.Bag)); k++ {
			can := passes(n, n.Bag[k])
			if slices.Contains(ready, k) != can {
				t.Fatalf("Ready of %v: %v", n, ready)
			}
			less := twin(n)
			less.Bag = lacks(n.Bag, k)
			got, p, e := Take(n, k)
			if can {
				wantDone(t, "Take", got, e, less)
			} else {
				wantRefused(t, "Take", got, e, api.ErrNet)
			}
			if can && p != n.Bag[k] || !can && p != (api.Packet{}) {
				t.Fatalf("Take of place %d of %v: %v", k, n, p)
			}
			got, e = Lose(n, k)
			wantDone(t, "Lose", got, e, less)
		}
		if len(ready) > 0 && (ready[0] < 0 || ready[len(ready)-1] >= len(n.Bag)) {
			t.Fatalf("Ready of %d packets: %v", len(n.Bag), ready)
		}
	}
}

// P3.1: Part and Wait change what they are named for, and nothing else.
func TestSomeTimesAndSides(t *testing.T) {
	r := rand.New(rand.NewSource(2))
	for range 1000 {
		n := someNet(r)
		want := twin(n)
		want.Side = [7]int{r.Intn(3), r.Intn(3), -1, r.Intn(3), math.MaxInt, r.Intn(3), r.Intn(3)}
		wantNet(t, "Part", Part(n, want.Side), want)
		ticks := one[uint64](r, 0, 1, 3, 1<<16, 1<<16+1, math.MaxUint64)
		got, e := Wait(n, ticks)
		if ticks > 1<<16 || n.Now > 1<<60 {
			wantRefused(t, "Wait", got, e, api.ErrArg)
			continue
		}
		want = twin(n)
		want.Now += ticks
		wantDone(t, "Wait", got, e, want)
	}
}

// P3.2: what is ready stays ready when time goes on, and is taken one by one in any order.
func TestReadyStays(t *testing.T) {
	r := rand.New(rand.NewSource(3))
	for range 1500 {
		n := someNet(r)
		was := Ready(n)
		later, e := Wait(n, one[uint64](r, 0, 1, 2, 1<<16))
		if e == api.OK {
			now := Ready(later)
			for _, k := range was {
				if !slices.Contains(now, k) {
					t.Fatalf("place %d of %v is ready no more", k, n)
				}
			}
		}
		taken := 0
		for ready := was; len(ready) > 0 && taken < 20; ready = Ready(n) {
			k := ready[r.Intn(len(ready))]
			want := lacks(n.Bag, k)
			n, _, e = Take(n, k)
			if e != api.OK || !slices.Equal(n.Bag, want) {
				t.Fatalf("Take of place %d: error %d, %v, want %v", k, e, n.Bag, want)
			}
			taken++
		}
		if taken != min(20, len(was)) {
			t.Fatalf("%d taken of %d that were ready", taken, len(was))
		}
	}
}

// P3.3.
func TestThereAndBack(t *testing.T) {
	r := rand.New(rand.NewSource(4))
	for range 1500 {
		n := someNet(r)
		k := r.Intn(len(n.Bag) + 1)
		more, e := Twice(n, k)
		switch {
		case k == len(n.Bag):
			wantRefused(t, "Twice of no place", more, e, api.ErrNet)
		case len(n.Bag) >= 512:
			wantRefused(t, "Twice in a full net", more, e, api.ErrFull)
		default:
			if e != api.OK || len(more.Bag) != len(n.Bag)+1 || more.Bag[len(n.Bag)] != n.Bag[k] {
				t.Fatalf("Twice of place %d of %v: error %d, %v", k, n, e, more)
			}
			back, e := Lose(more, len(n.Bag))
			wantDone(t, "Twice, then Lose", back, e, n)
		}
		more, e = Send(n, r.Intn(7), r.Intn(7), uint64(r.Intn(9)), "body")
		if e != api.OK {
			if n.Now <= 1<<60 && len(n.Bag) < 512 {
				t.Fatalf("Send: error %d", e)
			}
			continue
		}
		back, e := Lose(more, len(n.Bag))
		if back.Next != n.Next+1 {
			t.Fatalf("Next behind Send: %d, want %d", back.Next, n.Next+1)
		}
		back.Next = n.Next
		wantDone(t, "Send, then Lose", back, e, n)
	}
}

// roomy: a net with room to spare behind its packets, and the room with other packets in it.
func roomy() (api.Net, []api.Packet) {
	all := []api.Packet{packet(1, 0, 1, 0, "a"), packet(2, 1, 2, 0, "b"), packet(3, 2, 3, 0, "c"), packet(7, 7, 7, 7, "spare"), packet(8, 8, 8, 8, "room")}
	return api.Net{Bag: all[:3], Next: 4}, all
}

// answers: what each call that gives a net gives of this one.
func answers(t *testing.T, n api.Net) []api.Net {
	t.Helper()
	var list []api.Net
	keep := func(got api.Net, e api.Errno) {
		t.Helper()
		if e != api.OK {
			t.Errorf("error %d", e)
		}
		list = append(list, got)
	}
	keep(Send(n, 0, 1, 0, "x"))
	keep(Wait(n, 1))
	keep(Wait(n, 0))
	for k := range n.Bag {
		got, _, e := Take(n, k)
		keep(got, e)
		keep(Lose(n, k))
		keep(Twice(n, k))
	}
	return append(list, Part(n, [7]int{1}), Part(n, n.Side), Copy(n))
}

// P1 and the rules: what is handed in stays, its spare room too; an answer is new memory, of which no two calls share any.
func TestHandedInStays(t *testing.T) {
	n, all := roomy()
	was, wasAll := roomy()
	list := answers(t, n)
	again := answers(t, n)
	stays := func(what string) {
		t.Helper()
		if !same(n, was) || !slices.Equal(all, wasAll) {
			t.Fatalf("%s: handed in %v, now %v", what, wasAll, all)
		}
	}
	stays("behind the calls")
	for i, got := range list {
		want := twin(again[i])
		for k := range got.Bag {
			got.Bag[k].Body = "changed"
		}
		grown := append(got.Bag, packet(9, 9, 9, 9, "changed"))
		grown[0].ID = 99
		stays("behind a change of an answer")
		wantNet(t, "the same call's other answer", again[i], want)
	}
	places := Ready(n)
	places[0] = 5
	wantReady(t, "the net as it was", n, 0, 1, 2)

	for _, got := range answers(t, api.Net{Bag: all[:0]}) {
		got.Bag = append(got.Bag, packet(9, 9, 9, 9, "changed"))
		stays("behind an answer to no packets, now of " + strconv.Itoa(len(got.Bag)))
	}
}

// P3.1: a net without packets, nil or empty.
func TestNoPackets(t *testing.T) {
	for _, n := range []api.Net{{}, {Bag: []api.Packet{}}} {
		wantReady(t, "no packets", n)
		wantNet(t, "Copy", Copy(n), api.Net{})
		wantNet(t, "Part", Part(n, [7]int{1, 2}), api.Net{Side: [7]int{1, 2}})
		got, e := Wait(n, 2)
		wantDone(t, "Wait", got, e, api.Net{Now: 2})
		got, e = Send(n, 3, 4, 2, "x")
		wantDone(t, "Send", got, e, api.Net{Bag: []api.Packet{packet(0, 3, 4, 2, "x")}, Next: 1})
		got, e = Lose(got, 0)
		wantDone(t, "Lose of the only one", got, e, api.Net{Next: 1})
	}
}

// P1: every call ends and none panics, whatever it is given.
func TestAnything(t *testing.T) {
	r := rand.New(rand.NewSource(5))
	odd := func() int {
		return one(r, 0, 1, 2, 6, 7, -1, math.MaxInt, math.MinInt, math.MaxInt32, math.MinInt32)
	}
	far := func() uint64 {
		return one[uint64](r, 0, 1, 1<<16, 1<<16+1, 1<<60, 1<<60+1, 1<<63, math.MaxUint64)
	}
	for range 4000 {
		n := api.Net{Next: odd(), Now: far(), Side: [7]int{odd(), odd(), odd(), odd(), odd(), odd(), odd()}}
		for range r.Intn(4) {
			n.Bag = append(n.Bag, packet(odd(), odd(), odd(), far(), one(r, "", "\xff", "a")))
		}
		was := twin(n)
		k := odd()
		from, to, delay := odd(), odd(), far()
		got, e := Send(n, from, to, delay, "x")
		if good := from >= 0 && from <= 6 && to >= 0 && to <= 6 && delay <= 1<<16 && n.Now <= 1<<60; good != (e == api.OK) {
			t.Fatalf("Send of %v, %d, %d, %d: error %d", n, from, to, delay, e)
		}
		if e == api.OK && got.Bag[len(n.Bag)] != packet(n.Next, from, to, n.Now+delay, "x") {
			t.Fatalf("Send of %v: %v", n, got)
		}
		there := k >= 0 && k < len(n.Bag)
		if _, _, e := Take(n, k); (e == api.OK) != (there && passes(n, n.Bag[k])) {
			t.Fatalf("Take of place %d of %v: error %d", k, n, e)
		}
		if _, e := Lose(n, k); (e == api.OK) != there {
			t.Fatalf("Lose of place %d of %v: error %d", k, n, e)
		}
		if _, e := Twice(n, k); (e == api.OK) != there {
			t.Fatalf("Twice of place %d of %v: error %d", k, n, e)
		}
		wantNet(t, "what was handed in", n, was)
	}
}
