package script

import (
	"tontine/api"
	"tontine/wire"
)

// Bytes tells s as bytes, "" if s isn't as it may be.
func Bytes(s api.Script) string {
	if Is(s) != nil {
		return ""
	}
	w := wire.New()
	putConf(w, s.Conf)
	w.Num(s.Horizon)
	for _, stream := range s.Streams {
		w.Num(len(stream))
		for _, a := range stream {
			put(w, a.Op, a.A, a.B)
		}
	}
	for _, arrivals := range s.Arrivals {
		w.Num(len(arrivals))
		for _, a := range arrivals {
			put(w, a.Tick, a.Obj)
		}
	}
	return w.String()
}

func put(w *wire.Writer, numbers ...int) {
	for _, n := range numbers {
		w.Num(n)
	}
}

// putConf needn't say how many shares a plan has: as many as there are domains.
func putConf(w *wire.Writer, c api.Conf) {
	put(w, c.Frame, c.Epoch, len(c.Plans), len(c.Domains))
	for _, shares := range c.Plans {
		put(w, shares...)
	}
	for _, d := range c.Domains {
		putDomain(w, d)
	}
}

func putDomain(w *wire.Writer, d api.Domain) {
	w.Num(d.Label.Level)
	w.Bits(d.Label.Cats)
	w.Num(len(d.Routes))
	for _, route := range d.Routes {
		w.Num(len(route))
		put(w, route...)
	}
	put(w, d.To, len(d.Release))
	put(w, d.Release...)
	put(w, d.Threads, d.Groups, d.Ring, d.Sends, d.Box)
}

// Read tells the script whose Bytes are b. What no number of a script may be
// is left to Is, so that its error says which part is wrong.
func Read(b string) (api.Script, error) {
	if len(b) > api.MaxBytes {
		return api.Script{}, api.ErrLarge
	}
	r := reader{Reader: wire.Of(b)}
	s := r.script()
	err := r.wrong()
	if err == nil && r.Left() > 0 {
		err = api.ErrForm
	}
	if err == nil {
		err = Is(s)
	}
	if err != nil {
		return api.Script{}, err
	}
	return s, nil
}

// reader takes the parts of a script one by one, in the order in which Bytes
// puts them down.
type reader struct {
	*wire.Reader
	below bool // a count was below none, which is no Reader's error
}

// wrong tells the first error, nil if there was none: behind a Reader's own no
// count is below none any more.
func (r *reader) wrong() error {
	if r.below {
		return api.ErrForm
	}
	return r.Err()
}

func (r *reader) num() int {
	return r.Num(api.MaxArg)
}

// count takes how many of something there are. It is held against MaxBytes, as
// plans of nobody's shares would take no bytes, however many there are. None
// are written as 0; -1 would be another way to say so.
func (r *reader) count() int {
	n := r.Num(api.MaxBytes)
	r.below = r.below || n < 0
	return n
}

// many takes as many as are told, or those ahead of an error.
func many[T any](r *reader, count int, one func() T) []T {
	var all []T
next:
	if r.wrong() != nil || len(all) == count {
		return all
	}
	all = append(all, one())
	goto next
}

func (r *reader) nums() []int {
	return many(r, r.count(), r.num)
}

func (r *reader) script() api.Script {
	c := r.conf()
	return api.Script{
		Conf:     c,
		Horizon:  r.num(),
		Streams:  many(r, len(c.Domains), r.stream),
		Arrivals: many(r, len(c.Domains), r.arrivals),
	}
}

func (r *reader) conf() api.Conf {
	c := api.Conf{Frame: r.num(), Epoch: r.num()}
	plans, domains := r.count(), r.count()
	c.Plans = many(r, plans, func() []int { return many(r, domains, r.num) })
	c.Domains = many(r, domains, r.domain)
	return c
}

func (r *reader) domain() api.Domain {
	return api.Domain{
		Label:   api.Label{Level: r.num(), Cats: r.Bits()},
		Routes:  many(r, r.count(), r.nums),
		To:      r.num(),
		Release: r.nums(),
		Threads: r.num(),
		Groups:  r.num(),
		Ring:    r.num(),
		Sends:   r.num(),
		Box:     r.num(),
	}
}

func (r *reader) stream() []api.Action {
	return many(r, r.count(), func() api.Action {
		return api.Action{Op: r.num(), A: r.num(), B: r.num()}
	})
}

func (r *reader) arrivals() []api.Arrival {
	return many(r, r.count(), func() api.Arrival {
		return api.Arrival{Tick: r.num(), Obj: r.num()}
	})
}
