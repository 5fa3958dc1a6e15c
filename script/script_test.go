package script_test

import (
	"errors"
	"fmt"
	"math"
	"slices"
	"strings"
	"testing"

	"tontine/api"
	"tontine/conf"
	"tontine/script"
)

// least has one domain that does nothing.
func least() api.Script {
	return api.Script{
		Conf: api.Conf{Frame: 1, Epoch: 1, Plans: [][]int{{1}}, Domains: []api.Domain{
			{To: -1, Threads: 1, Ring: 1, Box: 1},
		}},
		Streams: [][]api.Action{nil}, Arrivals: [][]api.Arrival{nil},
	}
}

// rich has something of everything, and no two numbers that follow are alike
// where they needn't be.
func rich() api.Script {
	return api.Script{
		Conf: api.Conf{
			Frame: 10, Epoch: 3,
			Plans: [][]int{{5, 3, 1}, {0, 0, 1000}},
			Domains: []api.Domain{
				{Label: api.Label{}, Routes: [][]int{{1, 2}, {2}}, To: -1, Threads: 8, Groups: 4, Ring: 16, Sends: 7, Box: 5},
				{Label: api.Label{Level: 1, Cats: 1}, Routes: [][]int{{2}}, Release: []int{6}, To: 0, Threads: 1, Groups: 2, Ring: 3, Sends: 0, Box: 6},
				{Label: api.Label{Level: 255, Cats: 0xf123456789abcdef}, Release: []int{9, 0, 10, 3}, To: 1, Threads: 2, Groups: 1, Ring: 9, Sends: 3, Box: 8},
			},
		},
		Horizon: 1999,
		Streams: [][]api.Action{
			{{Op: api.ASpawn, A: 2, B: 3}, {Op: 126, A: 127, B: 128}},
			{{Op: api.ARelease}},
			{{Op: api.MaxArg, A: 16382, B: 16383}, {}, {Op: 4, A: 5, B: api.MaxArg}},
		},
		Arrivals: [][]api.Arrival{
			{{Tick: 0, Obj: 3}, {Tick: 0, Obj: 1}, {Tick: 7, Obj: 2}},
			{{Tick: 2000, Obj: 0}},
			{{Tick: 127, Obj: 3}, {Tick: 128, Obj: 0}},
		},
	}
}

// fullest is at its limit everywhere; no script has more bytes.
func fullest() api.Script {
	s := api.Script{Conf: api.Conf{Frame: 64, Epoch: 8}, Horizon: 2000}
	s.Conf.Plans = slices.Repeat([][]int{{1000, 1000, 1000, 1000, 1000, 1000}}, 3)
	for at := range 6 {
		d := api.Domain{Label: api.Label{Level: 250 + at, Cats: 1<<(10*at) - 1}, To: at - 1, Threads: 8, Groups: 4, Ring: 16, Sends: 8, Box: 8}
		if at > 0 {
			d.Release = []int{64, 64, 64, 64}
		}
		var up []int
		for to := at + 1; to < 6; to++ {
			up = append(up, to)
		}
		if at < 5 {
			d.Routes = [][]int{up, up, up}
		}
		s.Conf.Domains = append(s.Conf.Domains, d)
		s.Streams = append(s.Streams, slices.Repeat([]api.Action{{Op: 1 << 20, A: 1 << 20, B: 1 << 20}}, 400))
		s.Arrivals = append(s.Arrivals, slices.Repeat([]api.Arrival{{Tick: 2000, Obj: 3}}, 100))
	}
	return s
}

// copied shares nothing with s.
func copied(s api.Script) api.Script {
	rows := func(of [][]int) [][]int {
		out := slices.Clone(of)
		for i := range out {
			out[i] = slices.Clone(of[i])
		}
		return out
	}
	s.Conf.Plans, s.Conf.Domains = rows(s.Conf.Plans), slices.Clone(s.Conf.Domains)
	for at := range s.Conf.Domains {
		d := &s.Conf.Domains[at]
		d.Routes, d.Release = rows(d.Routes), slices.Clone(d.Release)
	}
	s.Streams, s.Arrivals = slices.Clone(s.Streams), slices.Clone(s.Arrivals)
	for at := range s.Streams {
		s.Streams[at] = slices.Clone(s.Streams[at])
	}
	for at := range s.Arrivals {
		s.Arrivals[at] = slices.Clone(s.Arrivals[at])
	}
	return s
}

// spelling is P4.2's order, written by hand; a number may be another one than
// that of the script.
type spelling struct {
	text   []byte
	counts []int // where each count's bytes begin
	plain  []int // where each other number's bytes begin
}

func (o *spelling) digits(n int) {
	for n++; n > 127; n /= 128 {
		o.text = append(o.text, byte(n%128)|128)
	}
	o.text = append(o.text, byte(n))
}

func (o *spelling) count(n int) {
	o.counts = append(o.counts, len(o.text))
	o.digits(n)
}

func (o *spelling) num(n int) {
	o.plain = append(o.plain, len(o.text))
	o.digits(n)
}

func (o *spelling) domain(d api.Domain) {
	o.num(d.Label.Level)
	for i := range 8 {
		o.text = append(o.text, byte(d.Label.Cats/(1<<(8*i))%256))
	}
	o.count(len(d.Routes))
	for _, route := range d.Routes {
		o.count(len(route))
		for _, at := range route {
			o.num(at)
		}
	}
	o.num(d.To)
	o.count(len(d.Release))
	for _, n := range d.Release {
		o.num(n)
	}
	for _, n := range []int{d.Threads, d.Groups, d.Ring, d.Sends, d.Box} {
		o.num(n)
	}
}

func spell(s api.Script) *spelling {
	o := &spelling{}
	o.num(s.Conf.Frame)
	o.num(s.Conf.Epoch)
	o.count(len(s.Conf.Plans))
	o.count(len(s.Conf.Domains))
	for _, plan := range s.Conf.Plans {
		for _, share := range plan {
			o.num(share)
		}
	}
	for _, d := range s.Conf.Domains {
		o.domain(d)
	}
	o.num(s.Horizon)
	for _, stream := range s.Streams {
		o.count(len(stream))
		for _, a := range stream {
			o.num(a.Op)
			o.num(a.A)
			o.num(a.B)
		}
	}
	for _, arrivals := range s.Arrivals {
		o.count(len(arrivals))
		for _, a := range arrivals {
			o.num(a.Tick)
			o.num(a.Obj)
		}
	}
	return o
}

// failed holds an error against the number that is asked for, 0 of none.
func failed(t *testing.T, what string, err error, want api.Errno) {
	t.Helper()
	if want == 0 && err == nil {
		return
	}
	var got api.Errno
	if want == 0 || !errors.As(err, &got) || got != want || !errors.Is(err, want) {
		t.Errorf("%s: %v, want %d", what, err, int(want))
	}
}

// held holds Is against the error that is asked for, and Bytes against that.
func held(t *testing.T, what string, s api.Script, want api.Errno) {
	t.Helper()
	failed(t, "P4.1: Is, "+what, script.Is(s), want)
	text := ""
	if want == 0 {
		text = string(spell(s).text)
	}
	if got := script.Bytes(s); got != text {
		t.Errorf("P4.2: Bytes, %s: %q, want %q", what, got, text)
	}
}

// unread holds Read against the error that is asked for; beside it is nothing.
func unread(t *testing.T, what, b string, want api.Errno) {
	t.Helper()
	s, err := script.Read(b)
	if want == 0 {
		t.Fatalf("the test's own: %s: no error is asked for", what)
	}
	failed(t, "P4.2: Read, "+what, err, want)
	if !script.Same(s, api.Script{}) {
		t.Errorf("P4.2: Read, %s: %v beside an error", what, s)
	}
}

// around gives numbers on both sides of a range's ends, and far from them.
func around(least, most int) []int {
	return []int{
		math.MinInt, math.MinInt + 1, -1 << 32, least - 2, least - 1, least, least + 1,
		most - 1, most, most + 1, most + 2, 1 << 32, 1<<32 + least, math.MaxInt - 1, math.MaxInt,
	}
}

// P4.1: a number is let from one of its limits to the other, in each place
// where it stands; one past it is its own error.
func TestIsLimits(t *testing.T) {
	for what, of := range map[string]struct {
		most int
		part func(s *api.Script, at, i int) *int
		want api.Errno
	}{
		"Horizon": {2000, func(s *api.Script, at, i int) *int { return &s.Horizon }, api.ErrLarge},
		"Op":      {1 << 20, func(s *api.Script, at, i int) *int { return &s.Streams[at][i].Op }, api.ErrLarge},
		"A":       {1 << 20, func(s *api.Script, at, i int) *int { return &s.Streams[at][i].A }, api.ErrLarge},
		"B":       {1 << 20, func(s *api.Script, at, i int) *int { return &s.Streams[at][i].B }, api.ErrLarge},
		"Tick":    {2000, func(s *api.Script, at, i int) *int { return &s.Arrivals[at][i].Tick }, api.ErrForm},
		"Obj":     {3, func(s *api.Script, at, i int) *int { return &s.Arrivals[at][i].Obj }, api.ErrForm},
	} {
		for at := range 3 {
			for i := range 3 {
				for _, n := range around(0, of.most) {
					s := rich()
					for d := range 3 {
						s.Streams[d], s.Arrivals[d] = make([]api.Action, 3), make([]api.Arrival, 3)
						for late := i; what == "Tick" && late < 3; late++ {
							s.Arrivals[d][late].Tick = max(0, min(n, 2000))
						}
					}
					*of.part(&s, at, i) = n
					want := of.want
					if 0 <= n && n <= of.most {
						want = 0
					}
					held(t, fmt.Sprintf("%s of %d, %d is %d", what, at, i, n), s, want)
				}
			}
		}
	}
}

// P4.1: any op may be, whether there is such a one or not.
func TestIsAnyOp(t *testing.T) {
	for op := range 300 {
		s := least()
		s.Streams[0] = []api.Action{{Op: op}}
		held(t, fmt.Sprintf("op %d", op), s, 0)
	}
}

// P4.1: as many Streams and Arrivals as there are domains.
func TestIsOfEachDomain(t *testing.T) {
	for streams := range 9 {
		for arrivals := range 9 {
			s := rich()
			s.Streams, s.Arrivals = make([][]api.Action, streams), make([][]api.Arrival, arrivals)
			want := api.ErrLarge
			if streams == 3 && arrivals == 3 {
				want = 0
			}
			held(t, fmt.Sprintf("%d streams, %d arrivals", streams, arrivals), s, want)
		}
	}
}

// P4.1: how many actions and arrivals a domain may have.
func TestIsHowMany(t *testing.T) {
	for at := range 3 {
		for _, n := range []int{0, 1, 99, 100, 101, 102, 399, 400, 401, 402, 1 << 16} {
			want := func(most int) api.Errno {
				if n <= most {
					return 0
				}
				return api.ErrLarge
			}
			s := rich()
			s.Streams[at] = make([]api.Action, n)
			held(t, fmt.Sprintf("%d actions of %d", n, at), s, want(400))
			s = rich()
			s.Arrivals[at] = make([]api.Arrival, n)
			held(t, fmt.Sprintf("%d arrivals of %d", n, at), s, want(100))
		}
	}
}

// P4.1: Ticks of a domain don't fall; they may stay, and go beyond Horizon.
func TestIsTicksFall(t *testing.T) {
	for at := range 3 {
		for a := range 3 {
			for b := range 3 {
				for c := range 3 {
					s := rich()
					s.Horizon = 1
					s.Arrivals[at] = []api.Arrival{{Tick: a * 1000}, {Tick: b * 1000}, {Tick: c * 1000}}
					want := api.ErrForm
					if a <= b && b <= c {
						want = 0
					}
					held(t, fmt.Sprintf("Ticks of %d: %d, %d, %d thousand", at, a, b, c), s, want)
				}
			}
		}
	}
	s := rich()
	s.Arrivals = [][]api.Arrival{{{Tick: 9}}, {{Tick: 8}}, {{Tick: 7}}}
	held(t, "Ticks fall from one domain to another one", s, 0)
}

type spoil struct {
	want api.Errno
	by   func(s *api.Script)
}

// spoils gives ways to come by each error, in the document's order of errors.
func spoils() []spoil {
	last := func(s *api.Script) *api.Domain { return &s.Conf.Domains[2] }
	return []spoil{
		{api.ErrForm, func(s *api.Script) { s.Conf.Frame = 65 }},
		{api.ErrForm, func(s *api.Script) { s.Conf.Epoch = -1 }},
		{api.ErrForm, func(s *api.Script) { last(s).Label.Level = 256 }},
		{api.ErrShare, func(s *api.Script) { s.Conf.Plans = nil }},
		{api.ErrShare, func(s *api.Script) { s.Conf.Plans[1] = []int{0, 0, 0} }},
		{api.ErrShare, func(s *api.Script) { s.Conf.Plans[0][2] = 1001 }},
		{api.ErrQuota, func(s *api.Script) { last(s).Threads = 9 }},
		{api.ErrQuota, func(s *api.Script) { last(s).Groups = 5 }},
		{api.ErrQuota, func(s *api.Script) { last(s).Ring = 0 }},
		{api.ErrQuota, func(s *api.Script) { last(s).Sends = 9 }},
		{api.ErrQuota, func(s *api.Script) { last(s).Box = 0 }},
		{api.ErrRoute, func(s *api.Script) { last(s).Routes = [][]int{{0}} }},
		{api.ErrRoute, func(s *api.Script) { last(s).To = -1 }},
		{api.ErrRoute, func(s *api.Script) { last(s).Release = []int{11} }},
		{api.ErrLarge, func(s *api.Script) { s.Horizon = 2001 }},
		{api.ErrLarge, func(s *api.Script) { s.Horizon = -1 }},
		{api.ErrLarge, func(s *api.Script) { s.Streams[2] = make([]api.Action, 401) }},
		{api.ErrLarge, func(s *api.Script) { s.Streams[2] = []api.Action{{Op: -1}} }},
		{api.ErrLarge, func(s *api.Script) { s.Streams[2] = []api.Action{{}, {A: -1}} }},
		{api.ErrLarge, func(s *api.Script) { s.Streams[2] = []api.Action{{}, {}, {B: -1}} }},
		{api.ErrLarge, func(s *api.Script) { s.Arrivals[2] = make([]api.Arrival, 101) }},
		{api.ErrForm, func(s *api.Script) { s.Arrivals[0][0].Tick = -1 }},
		{api.ErrForm, func(s *api.Script) { s.Arrivals[0][2].Tick = 2001 }},
		{api.ErrForm, func(s *api.Script) { s.Arrivals[0][0].Tick = 1 }},
		{api.ErrForm, func(s *api.Script) { s.Arrivals[0][0].Obj = 4 }},
		{api.ErrForm, func(s *api.Script) { s.Arrivals[0][1].Obj = -1 }},
	}
}

// P4.1: of several errors the first is told, over all domains: conf's ahead of
// what is too large, that ahead of a domain's arrivals that come earlier.
func TestIsFirst(t *testing.T) {
	held(t, "rich", rich(), 0)
	for i, first := range spoils() {
		s := rich()
		first.by(&s)
		held(t, fmt.Sprintf("spoil %d", i), s, first.want)
		for j, also := range spoils()[i+1:] {
			s := rich()
			also.by(&s)
			first.by(&s)
			if err := conf.Is(s.Conf); err != nil {
				first.want = err.(api.Errno)
			}
			held(t, fmt.Sprintf("spoils %d and %d", i, i+1+j), s, first.want)
		}
	}
	for _, of := range []struct {
		streams  int
		arrivals int
	}{{2, 3}, {3, 2}, {4, 3}, {3, 4}, {0, 0}} {
		s := rich()
		s.Streams, s.Arrivals = make([][]api.Action, of.streams), make([][]api.Arrival, of.arrivals)
		for at := range s.Arrivals {
			s.Arrivals[at] = []api.Arrival{{Obj: 9}}
		}
		held(t, fmt.Sprintf("%v lists of odd arrivals", of), s, api.ErrLarge)
		s.Conf.Domains[0].Box = 0
		held(t, fmt.Sprintf("%v lists and a quota", of), s, api.ErrQuota)
	}
}

// P4.1: nothing isn't a script.
func TestIsNothing(t *testing.T) {
	held(t, "nothing", api.Script{}, api.ErrForm)
	held(t, "the least", least(), 0)
	held(t, "the fullest", fullest(), 0)
	s := least()
	s.Streams, s.Arrivals = nil, nil
	held(t, "the least without lists", s, api.ErrLarge)
}

// unlike gives scripts, no two of them the same: rich, and what is changed in
// one part of it, whether it may be then or not.
func unlike() []api.Script {
	numbers := []func(s *api.Script) *int{
		func(s *api.Script) *int { return &s.Horizon },
		func(s *api.Script) *int { return &s.Conf.Frame },
		func(s *api.Script) *int { return &s.Conf.Plans[1][2] },
		func(s *api.Script) *int { return &s.Conf.Domains[2].Box },
		func(s *api.Script) *int { return &s.Conf.Domains[0].Routes[1][0] },
	}
	r := rich()
	for at := range 3 {
		for i := range r.Streams[at] {
			numbers = append(numbers,
				func(s *api.Script) *int { return &s.Streams[at][i].Op },
				func(s *api.Script) *int { return &s.Streams[at][i].A },
				func(s *api.Script) *int { return &s.Streams[at][i].B })
		}
		for i := range r.Arrivals[at] {
			numbers = append(numbers,
				func(s *api.Script) *int { return &s.Arrivals[at][i].Tick },
				func(s *api.Script) *int { return &s.Arrivals[at][i].Obj })
		}
	}
	out := []api.Script{{}, least(), rich()}
	for _, part := range numbers {
		for _, by := range []int{-3, 3000, 1 << 32} {
			s := rich()
			*part(&s) += by
			out = append(out, s)
		}
	}
	for _, change := range []func(s *api.Script){
		func(s *api.Script) { s.Streams = nil },
		func(s *api.Script) { s.Streams = s.Streams[:2] },
		func(s *api.Script) { s.Streams = append(s.Streams, nil) },
		func(s *api.Script) { slices.Reverse(s.Streams) },
		func(s *api.Script) { slices.Reverse(s.Streams[0]) },
		func(s *api.Script) { s.Streams[1] = nil },
		func(s *api.Script) { s.Streams[2] = s.Streams[2][:2] },
		func(s *api.Script) { s.Streams[2] = append(s.Streams[2], api.Action{}) },
		func(s *api.Script) { s.Streams = [][]api.Action{slices.Concat(s.Streams...), nil, nil} },
		func(s *api.Script) { s.Arrivals = nil },
		func(s *api.Script) { s.Arrivals = s.Arrivals[:2] },
		func(s *api.Script) { s.Arrivals = append(s.Arrivals, nil) },
		func(s *api.Script) { slices.Reverse(s.Arrivals) },
		func(s *api.Script) { slices.Reverse(s.Arrivals[0]) },
		func(s *api.Script) { s.Arrivals[1] = nil },
		func(s *api.Script) { s.Arrivals[2] = s.Arrivals[2][:1] },
		func(s *api.Script) { s.Arrivals[2] = append(s.Arrivals[2], api.Arrival{}) },
		func(s *api.Script) { s.Arrivals = [][]api.Arrival{slices.Concat(s.Arrivals...), nil, nil} },
		func(s *api.Script) { s.Conf.Domains[2].Label.Cats ^= 1 << 63 },
	} {
		s := rich()
		change(&s)
		out = append(out, s)
	}
	return out
}

// P4.1: Same is of all parts, either way round, and of nothing else.
func TestSame(t *testing.T) {
	for i, a := range unlike() {
		for j, b := range unlike() {
			if got := script.Same(a, b); got != (i == j) {
				t.Errorf("P4.1: Same of %d, %d: %v", i, j, got)
			}
		}
	}
	if !script.Same(fullest(), fullest()) || !script.Same(rich(), copied(rich())) {
		t.Error("P4.1: Same of two alike")
	}
}

// P4.1: a nil list and an empty one are the same, wherever it is.
func TestEmptyLists(t *testing.T) {
	a, b := least(), least()
	b.Conf.Domains[0].Routes, b.Conf.Domains[0].Release = [][]int{}, make([]int, 0, 3)
	b.Streams[0], b.Arrivals[0] = []api.Action{}, make([]api.Arrival, 0, 3)
	none, empty := api.Script{Horizon: 1}, api.Script{Horizon: 1, Streams: [][]api.Action{}, Arrivals: [][]api.Arrival{}}
	if !script.Same(a, b) || !script.Same(b, a) || !script.Same(none, empty) || !script.Same(empty, none) {
		t.Error("P4.1: Same: nil and empty are unlike")
	}
	held(t, "empty lists", b, 0)
	if script.Bytes(a) != script.Bytes(b) {
		t.Error("P4.2: Bytes of nil and of empty are unlike")
	}
}

// P4.1: what stands in a list's spare room is no part of it.
func TestSpareRoom(t *testing.T) {
	s := rich()
	s.Streams = append(s.Streams, []api.Action{{Op: -1}})[:3]
	s.Streams[1] = append(s.Streams[1], api.Action{Op: -1})[:1]
	s.Arrivals = append(s.Arrivals, []api.Arrival{{Obj: -1}})[:3]
	s.Arrivals[0] = append(s.Arrivals[0], api.Arrival{Obj: -1})[:3]
	held(t, "spare room", s, 0)
	if !script.Same(s, rich()) || script.Bytes(s) != script.Bytes(rich()) {
		t.Error("P4.1: the spare room is asked for")
	}
}

// P4.2: a script's bytes, one by one.
func TestBytes(t *testing.T) {
	s := api.Script{
		Conf: api.Conf{
			Frame: 2, Epoch: 4, Plans: [][]int{{5, 6}, {0, 200}},
			Domains: []api.Domain{
				{Label: api.Label{Level: 127, Cats: 1}, Routes: [][]int{{1}, {1}}, To: -1, Threads: 7, Groups: 2, Ring: 4, Sends: 3, Box: 5},
				{Label: api.Label{Level: 128, Cats: 1 | 1<<63}, Release: []int{2, 0}, To: 0, Threads: 1, Groups: 0, Ring: 1, Sends: 0, Box: 1},
			},
		},
		Horizon:  2000,
		Streams:  [][]api.Action{{{Op: 12, A: 11, B: 10}, {Op: api.MaxArg}}, {}},
		Arrivals: [][]api.Arrival{nil, {{Tick: 127, Obj: 3}}},
	}
	want := "\x03\x05\x03\x03" + "\x06\x07" + "\x01\xc9\x01" +
		"\x80\x01" + "\x01\x00\x00\x00\x00\x00\x00\x00" + "\x03\x02\x02\x02\x02" + "\x00\x01" + "\x08\x03\x05\x04\x06" +
		"\x81\x01" + "\x01\x00\x00\x00\x00\x00\x00\x80" + "\x01" + "\x01\x03\x03\x01" + "\x02\x01\x02\x01\x02" +
		"\xd1\x0f" +
		"\x03\x0d\x0c\x0b\x81\x80\x40\x01\x01" + "\x01" +
		"\x01" + "\x02\x80\x01\x04"
	if got := script.Bytes(s); got != want {
		t.Errorf("P4.2: Bytes: %q, want %q", got, want)
	}
	if got := string(spell(s).text); got != want {
		t.Errorf("the test's own: %q, want %q", got, want)
	}
}

// P4.2: the script whose Bytes are b: there and back.
func TestThereAndBack(t *testing.T) {
	for i, s := range append(unlike(), fullest()) {
		if script.Is(s) != nil {
			if got := script.Bytes(s); got != "" {
				t.Errorf("P4.2: Bytes of script %d, which isn't: %q", i, got)
			}
			continue
		}
		b := script.Bytes(s)
		back, err := script.Read(b)
		if err != nil || !script.Same(back, s) || script.Bytes(back) != b || b != string(spell(s).text) {
			t.Errorf("P4.2: script %d: %v, %v", i, back, err)
		}
	}
	if n := len(script.Bytes(fullest())); n > api.MaxBytes || n < 6*400*9 {
		t.Errorf("the test's own: the fullest has %d bytes", n)
	}
}

// P4.2: each number there may be in an action, each Cat, there and back.
func TestThereAndBackNumbers(t *testing.T) {
	for n := 0; n <= api.MaxArg; n += 1 + n/400 {
		s := least()
		s.Streams[0] = []api.Action{{Op: n, A: api.MaxArg - n, B: n / 2}}
		s.Conf.Domains[0].Label.Cats = uint64(n) * 0x9e3779b97f4a7c15
		back, err := script.Read(script.Bytes(s))
		if err != nil || !script.Same(back, s) {
			t.Fatalf("P4.2: number %d: %v, %v", n, back, err)
		}
	}
}

// P4.2: what is cut short is ErrShort, wherever it is cut.
func TestReadShort(t *testing.T) {
	unread(t, "nothing", "", api.ErrShort)
	for i, s := range []api.Script{least(), rich()} {
		b := script.Bytes(s)
		for n := range len(b) {
			unread(t, fmt.Sprintf("script %d, %d bytes", i, n), b[:n], api.ErrShort)
		}
	}
	b := script.Bytes(fullest())
	for n := 0; n < len(b); n += 211 {
		unread(t, fmt.Sprintf("fullest, %d bytes", n), b[:n], api.ErrShort)
	}
}

// P4.2: bytes that are left are ErrForm, up to MaxBytes in all; more bytes are
// ErrLarge, whatever they are.
func TestReadLeft(t *testing.T) {
	for i, s := range []api.Script{least(), rich(), fullest()} {
		b := script.Bytes(s)
		for _, behind := range []string{"\x00", "\x01", "\x80", "\xff\xff\xff\xff", b} {
			want := api.ErrForm
			if len(b+behind) > 40000 {
				want = api.ErrLarge
			}
			unread(t, fmt.Sprintf("script %d and %d bytes", i, len(behind)), b+behind, want)
		}
		for _, filling := range []string{"\x00", "\x01", "\xff"} {
			full := b + strings.Repeat(filling, 40000-len(b))
			unread(t, fmt.Sprintf("script %d, filled up", i), full, api.ErrForm)
			unread(t, fmt.Sprintf("script %d, one more", i), full+filling, api.ErrLarge)
		}
	}
	unread(t, "far too many", strings.Repeat("\x00", 1<<20), api.ErrLarge)
	unread(t, "one too many that lack", strings.Repeat("\x80", 40001), api.ErrLarge)
	unread(t, "the most that are ill-formed", strings.Repeat("\x80", 40000), api.ErrForm)
}

// P4.2: what may be written and isn't a script: Is's error.
func TestReadIs(t *testing.T) {
	for i, of := range spoils() {
		s := rich()
		of.by(&s)
		unread(t, fmt.Sprintf("spoil %d", i), string(spell(s).text), of.want)
	}
	for what, of := range map[string]struct {
		want api.Errno
		by   func(s *api.Script)
	}{
		"no domains": {api.ErrForm, func(s *api.Script) { *s = api.Script{Conf: api.Conf{Frame: 1, Epoch: 1}} }},
		"plans of nobody's shares": {api.ErrForm, func(s *api.Script) {
			*s = api.Script{Conf: api.Conf{Frame: 1, Epoch: 1, Plans: make([][]int, 40000)}}
		}},
		"seven domains": {api.ErrForm, func(s *api.Script) {
			s.Conf.Domains = slices.Repeat(s.Conf.Domains, 3)[:7]
			s.Conf.Plans = [][]int{make([]int, 7)}
			s.Streams, s.Arrivals = make([][]api.Action, 7), make([][]api.Arrival, 7)
		}},
		"four plans":     {api.ErrShare, func(s *api.Script) { s.Conf.Plans = slices.Repeat(s.Conf.Plans, 2) }},
		"four routes":    {api.ErrRoute, func(s *api.Script) { s.Conf.Domains[0].Routes = slices.Repeat([][]int{{1}}, 4) }},
		"an empty route": {api.ErrRoute, func(s *api.Script) { s.Conf.Domains[0].Routes = [][]int{nil} }},
		"a long route":   {api.ErrRoute, func(s *api.Script) { s.Conf.Domains[0].Routes = [][]int{make([]int, 30000)} }},
		"five levels":    {api.ErrRoute, func(s *api.Script) { s.Conf.Domains[2].Release = make([]int, 5) }},
		"many actions":   {api.ErrLarge, func(s *api.Script) { s.Streams[1] = make([]api.Action, 13000) }},
		"many arrivals":  {api.ErrLarge, func(s *api.Script) { s.Arrivals[1] = make([]api.Arrival, 19000) }},
	} {
		s := rich()
		of.by(&s)
		unread(t, what, string(spell(s).text), of.want)
		failed(t, "the test's own, "+what, script.Is(s), of.want)
	}
}

// swapped puts other bytes in the place of the number that begins at that byte.
func swapped(text []byte, from int, other string) string {
	to := from
	for text[to] >= 128 {
		to++
	}
	return string(text[:from]) + other + string(text[to+1:])
}

// P4.2: a count of -1 is no other way to write none: ErrForm.
func TestReadCounts(t *testing.T) {
	for i, s := range []api.Script{least(), rich()} {
		o := spell(s)
		for _, at := range o.counts {
			unread(t, fmt.Sprintf("script %d, -1 of them at %d", i, at), swapped(o.text, at, "\x00"), api.ErrForm)
			unread(t, fmt.Sprintf("script %d, -1 of them at the end %d", i, at), string(o.text[:at])+"\x00", api.ErrForm)
			unread(t, fmt.Sprintf("script %d, too many at %d", i, at), swapped(o.text, at, "\xff\xff\x7f"), api.ErrLarge)
		}
	}
	o := spell(least())
	for _, at := range o.counts[len(o.counts)-2:] {
		unread(t, "as many as there may be bytes", swapped(o.text, at, "\xc1\xb8\x02"), api.ErrShort)
		unread(t, "one more than there may be bytes", swapped(o.text, at, "\xc2\xb8\x02"), api.ErrLarge)
	}
}

// P4.2: a number that is above MaxArg is ErrLarge, one that could be written
// in fewer bytes, or in more than three, ErrForm, wherever it stands.
func TestReadNumbers(t *testing.T) {
	for i, s := range []api.Script{least(), rich()} {
		o := spell(s)
		for _, at := range slices.Concat(o.plain, o.counts) {
			for other, want := range map[string]api.Errno{
				"\x82\x80\x40":     api.ErrLarge,
				"\xff\xff\xff\x7f": api.ErrLarge,
				"\x82\x00":         api.ErrForm,
				"\x82\x80\x00":     api.ErrForm,
				"\x82\x80\x80\x80": api.ErrForm,
			} {
				unread(t, fmt.Sprintf("script %d, %q at %d", i, other, at), swapped(o.text, at, other), want)
			}
		}
	}
	s := least()
	s.Streams[0] = []api.Action{{Op: api.MaxArg, A: api.MaxArg, B: api.MaxArg}}
	if back, err := script.Read(string(spell(s).text)); err != nil || !script.Same(s, back) {
		t.Errorf("P4.2: Read of MaxArg: %v, %v", back, err)
	}
}

// either holds what Read tells of any bytes: a script whose Bytes they are, or
// one of the errors and nothing else. It tells whether there was a script.
func either(t *testing.T, b string) bool {
	t.Helper()
	s, err := script.Read(b)
	if err == nil {
		if script.Is(s) != nil || script.Bytes(s) != b {
			t.Errorf("P4.3: Read of %q: %v, whose Bytes are %q", b, s, script.Bytes(s))
		}
		return true
	}
	var got api.Errno
	known := []api.Errno{api.ErrForm, api.ErrShort, api.ErrLarge, api.ErrRoute, api.ErrShare, api.ErrQuota}
	if !errors.As(err, &got) || !slices.Contains(known, got) || !script.Same(s, api.Script{}) {
		t.Errorf("P4.3: Read of %q: %v, %v", b, s, err)
	}
	return false
}

// P4.3: any bytes near those of a script: one of them is another one, or gone,
// or there twice.
func TestReadNear(t *testing.T) {
	for _, s := range []api.Script{least(), rich()} {
		b := script.Bytes(s)
		scripts := 0
		for at := range len(b) {
			for other := range 256 {
				if either(t, b[:at]+string([]byte{byte(other)})+b[at+1:]) {
					scripts++
				}
			}
			either(t, b[:at]+b[at+1:])
			either(t, b[:at]+b[at:at+1]+b[at:])
		}
		if scripts < len(b)+8*255 {
			t.Errorf("P4.3: only %d scripts near %q", scripts, b)
		}
	}
}

// P4.3: any few bytes, by themselves and behind the beginning of a script.
func TestReadAny(t *testing.T) {
	texts := []string{""}
	for from, size := 0, 0; size < 5; size++ {
		to := len(texts)
		for _, text := range texts[from:to] {
			for _, b := range []byte{0, 1, 2, 127, 128, 255} {
				texts = append(texts, text+string([]byte{b}))
			}
		}
		from = to
	}
	b := script.Bytes(least())
	for _, text := range texts {
		if either(t, text) {
			t.Errorf("P4.3: Read of %q: a script", text)
		}
		for _, n := range []int{4, 14, len(b) - 5, len(b) - 1} {
			either(t, b[:n]+text)
		}
	}
}

// What is handed in stays as it was, and isn't kept: a later change tells.
func TestChangesNothing(t *testing.T) {
	for i, s := range unlike() {
		script.Is(s)
		script.Bytes(s)
		script.Same(s, rich())
		if !script.Same(s, unlike()[i]) {
			t.Errorf("script changed what was handed in, %d", i)
		}
	}
	s := rich()
	b := script.Bytes(s)
	s.Streams[0][0].A++
	if script.Bytes(s) == b || b != script.Bytes(rich()) {
		t.Error("P4.2: Bytes of what was changed since")
	}
}

// What is read is new memory, however often it is read; what is appended to
// one of its lists is seen in no other one.
func TestReadNewMemory(t *testing.T) {
	for _, s := range []api.Script{rich(), fullest()} {
		b := script.Bytes(s)
		first, _ := script.Read(b)
		second, _ := script.Read(b)
		overwrite(&first)
		if !script.Same(second, s) {
			t.Error("Read: two answers share memory")
		}
		kept := copied(second)
		fillSpare(&second)
		if !script.Same(second, kept) {
			t.Error("Read: two lists of one answer share memory")
		}
		if third, err := script.Read(b); err != nil || !script.Same(third, s) {
			t.Error("Read: a later answer is touched")
		}
	}
}

func overwrite(s *api.Script) {
	for _, rows := range append([][][]int{s.Conf.Plans}, routesOf(s)...) {
		for _, row := range rows {
			clear(row)
		}
		clear(rows)
	}
	for at := range s.Conf.Domains {
		clear(s.Conf.Domains[at].Release)
		clear(s.Streams[at])
		clear(s.Arrivals[at])
	}
	clear(s.Conf.Domains)
	clear(s.Streams)
	clear(s.Arrivals)
}

func routesOf(s *api.Script) [][][]int {
	var out [][][]int
	for _, d := range s.Conf.Domains {
		out = append(out, d.Routes)
	}
	return out
}

func fillSpare(s *api.Script) {
	for _, rows := range append([][][]int{s.Conf.Plans}, routesOf(s)...) {
		for _, row := range rows {
			fill(row, -9)
		}
		fill(rows, []int{-9})
	}
	for at := range s.Conf.Domains {
		fill(s.Conf.Domains[at].Release, -9)
		fill(s.Streams[at], api.Action{Op: -9})
		fill(s.Arrivals[at], api.Arrival{Obj: -9})
	}
	fill(s.Conf.Domains, api.Domain{To: -9})
	fill(s.Streams, []api.Action{{Op: -9}})
	fill(s.Arrivals, []api.Arrival{{Obj: -9}})
}

// fill writes all over a list's spare room.
func fill[T any](list []T, by T) {
	spare := list[len(list):cap(list)]
	for i := range spare {
		spare[i] = by
	}
}

func Example() {
	s := api.Script{
		Conf: api.Conf{Frame: 1, Epoch: 1, Plans: [][]int{{1}}, Domains: []api.Domain{
			{To: -1, Threads: 1, Ring: 1, Box: 1},
		}},
		Horizon:  10,
		Streams:  [][]api.Action{{{Op: api.ASleep, A: 3}}},
		Arrivals: [][]api.Arrival{{{Tick: 2, Obj: 0}}},
	}
	b := script.Bytes(s)
	back, err := script.Read(b)
	fmt.Println(len(b), script.Same(s, back), err)
	_, err = script.Read(b[:9])
	fmt.Println(errors.Is(err, api.ErrShort))
	_, err = script.Read(b + "more")
	fmt.Println(errors.Is(err, api.ErrForm))
	s.Arrivals = nil
	fmt.Println(errors.Is(script.Is(s), api.ErrLarge), len(script.Bytes(s)))
	// Output:
	// 30 true <nil>
	// true
	// true
	// true 0
}
