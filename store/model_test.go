package store_test

import (
	"cmp"
	"maps"
	"slices"
	"strings"

	"hectograph/api"
	"hectograph/store"
)

// image is what one object is, whole: nothing of it is ever changed, each deed makes another one.
type image struct {
	there bool
	bytes string
	attrs map[string]string
}

// used is how many bytes it takes up.
func (m image) used() int {
	n := len(m.bytes)
	for name, v := range m.attrs {
		n += len(name) + len(v)
	}
	return n
}

// written is m with p from off on.
func (m image) written(off int, p string) image {
	if len(p) == 0 {
		return m
	}
	b := m.bytes
	if len(b) < off+len(p) {
		b += strings.Repeat("\x00", off+len(p)-len(b))
	}
	m.bytes = b[:off] + p + b[off+len(p):]
	return m
}

// with is m with the attribute v of that name.
func (m image) with(name, v string) image {
	m.attrs = maps.Clone(m.attrs)
	if m.attrs == nil {
		m.attrs = map[string]string{}
	}
	m.attrs[name] = v
	if v == "" {
		delete(m.attrs, name)
	}
	return m
}

// step is what an object is behind one of its wet deeds; of a writing: where and what.
type step struct {
	behind  image
	writing bool
	off     int
	data    string
}

// model is a store as the page has it, slow and plain: each object's images one by one, the dry one first.
type model struct {
	room  int
	off   bool
	past  map[api.Key][]step
	deeds int
	fused bool
	left  int
	keep  []int
	torn  int
}

func newModel(room int) *model {
	return &model{room: min(max(room, 0), api.MaxRoom), past: map[api.Key][]step{}}
}

// now is what k's object is seen to be.
func (m *model) now(k api.Key) image {
	if l := m.past[k]; len(l) > 0 {
		return l[len(l)-1].behind
	}
	return image{}
}

func (m *model) used() int {
	n := 0
	for k := range m.past {
		n += m.now(k).used()
	}
	return n
}

func (m *model) spare() int { return max(m.room-m.used(), 0) }

func (m *model) wet() int {
	n := 0
	for _, l := range m.past {
		n += len(l) - 1
	}
	return n
}

func (m *model) things() int {
	n := 0
	for k := range m.past {
		if m.now(k).there {
			n++
		}
	}
	return n
}

// first is the refusal that comes ahead of all others of a call that asks for an object.
func (m *model) first(k api.Key) api.Errno {
	switch {
	case m.off:
		return api.ErrOff
	case !store.Right(k):
		return api.ErrArg
	case !m.now(k).there:
		return api.ErrNone
	}
	return api.OK
}

func (m *model) blown() bool {
	if !m.fused {
		return false
	}
	if m.left > 0 {
		m.left--
		return false
	}
	m.fall(m.keep, m.torn)
	return true
}

func (m *model) do(k api.Key, x step) api.Errno {
	if m.blown() {
		return api.ErrOff
	}
	if len(m.past[k]) == 0 {
		m.past[k] = []step{{}}
	}
	m.past[k] = append(m.past[k], x)
	m.deeds++
	return api.OK
}

func (m *model) make(k api.Key) api.Errno {
	switch why := m.first(k); {
	case why == api.OK:
		return api.ErrThere
	case why != api.ErrNone:
		return why
	case m.things() >= api.MaxThings:
		return api.ErrFull
	}
	return m.do(k, step{behind: image{there: true}})
}

func (m *model) write(k api.Key, off int, p string) api.Errno {
	if why := m.first(k); why != api.OK {
		return why
	}
	if off < 0 || off > api.MaxObject || off+len(p) > api.MaxObject {
		return api.ErrRange
	}
	was := m.now(k)
	is := was.written(off, p)
	if len(is.bytes)-len(was.bytes) > m.spare() {
		return api.ErrFull
	}
	return m.do(k, step{is, true, off, p})
}

func (m *model) trim(k api.Key, size int) api.Errno {
	if why := m.first(k); why != api.OK {
		return why
	}
	is := m.now(k)
	is.bytes = is.bytes[:min(max(size, 0), len(is.bytes))]
	return m.do(k, step{behind: is})
}

func (m *model) drop(k api.Key) api.Errno {
	if why := m.first(k); why != api.OK {
		return why
	}
	return m.do(k, step{})
}

func (m *model) set(k api.Key, name, v string) api.Errno {
	if why := m.first(k); why != api.OK {
		return why
	}
	if len(name) < 1 || len(name) > 20 || len(v) > 4096 {
		return api.ErrArg
	}
	was := m.now(k)
	is := was.with(name, v)
	if is.used()-was.used() > m.spare() {
		return api.ErrFull
	}
	return m.do(k, step{behind: is})
}

// dry makes what is left of each object the only image that it has.
func (m *model) dry() {
	for k := range m.past {
		m.past[k] = []step{{behind: m.now(k)}}
	}
}

func (m *model) barrier() api.Errno {
	if m.off || m.blown() {
		return api.ErrOff
	}
	m.dry()
	m.deeds++
	return api.OK
}

// sorted is the keys of m, by Kind, Img, Num, Snap.
func (m *model) sorted() []api.Key {
	return slices.SortedFunc(maps.Keys(m.past), func(a, b api.Key) int {
		return cmp.Or(a.Kind-b.Kind, a.Img-b.Img, a.Num-b.Num, a.Snap-b.Snap)
	})
}

func (m *model) fall(keep []int, torn int) int {
	if m.off {
		return 0
	}
	lost := 0
	for _, k := range m.sorted() {
		l := m.past[k]
		if len(l) == 1 {
			continue
		}
		n := 0
		if len(keep) > 0 {
			n, keep = min(max(keep[0], 0), len(l)-1), keep[1:]
		}
		is := l[n].behind
		if n < len(l)-1 && l[n+1].writing && torn > 0 {
			next := l[n+1]
			is = is.written(next.off, next.data[:min(torn, max(len(next.data)-1, 0))])
		}
		m.past[k] = []step{{behind: is}}
		lost += len(l) - 1 - n
	}
	m.off, m.fused = true, false
	return lost
}

func (m *model) power() bool {
	was := m.off
	m.off = false
	return was
}

// twin is another model; images and steps are never changed, so that both may have them.
func (m *model) twin() *model {
	t := *m
	t.past = map[api.Key][]step{}
	for k, l := range m.past {
		t.past[k] = slices.Clone(l)
	}
	return &t
}
