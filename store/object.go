package store

import (
	"bytes"
	"maps"
)

// object is what a key names: bytes, and attributes. A value once laid in attrs is never written again: copies share it.
type object struct {
	bytes []byte
	attrs map[string][]byte
	named int // bytes of the attributes' names and values: counted along, so that no deed goes through them all
}

// used is how many bytes o takes up; none, if it isn't there.
func (o *object) used() int {
	if o == nil {
		return 0
	}
	return len(o.bytes) + o.named
}

// copied is another object just like o; nil, if it isn't there.
func (o *object) copied() *object {
	if o == nil {
		return nil
	}
	return &object{bytes: bytes.Clone(o.bytes), attrs: maps.Clone(o.attrs), named: o.named}
}

// growth is by how many bytes o grows when the n bytes from off on are written.
func (o *object) growth(off, n int) int {
	if n == 0 {
		return 0
	}
	return max(off+n-len(o.bytes), 0)
}

// write lays p from off on, behind noughts, if o ends ahead of off.
func (o *object) write(off int, p []byte) {
	o.bytes = append(o.bytes, make([]byte, o.growth(off, len(p)))...)
	if len(p) > 0 {
		copy(o.bytes[off:], p)
	}
}

// trim leaves the first size bytes, size held between 0 and what there is.
func (o *object) trim(size int) {
	o.bytes = o.bytes[:held(size, 0, len(o.bytes))]
}

// attrGrowth is by how many bytes o grows when its attribute becomes v; below 0, if it shrinks.
func (o *object) attrGrowth(name string, v []byte) int {
	return attrUsed(name, v) - attrUsed(name, o.attrs[name])
}

// set makes v the attribute of that name; no v takes it away.
func (o *object) set(name string, v []byte) {
	o.named += o.attrGrowth(name, v)
	if len(v) == 0 {
		delete(o.attrs, name)
		return
	}
	if o.attrs == nil {
		o.attrs = map[string][]byte{}
	}
	o.attrs[name] = v
}

// attrUsed is how many bytes an attribute takes up; one without a value isn't there, and its name isn't either.
func attrUsed(name string, v []byte) int {
	if len(v) == 0 {
		return 0
	}
	return len(name) + len(v)
}

// Kinds of deeds. An Append is a writing at the end that it found: what is ahead of it is the same when it is done again.
const (
	making = iota
	writing
	trimming
	dropping
	setting
)

// deed is what was done to one object; its data is never written again: copies share it.
type deed struct {
	kind int
	at   int    // writing: from where on; trimming: the size
	name string // setting
	data []byte // writing, setting
}

// done is what becomes of o by d; nil: it isn't there.
func (d deed) done(o *object) *object {
	switch d.kind {
	case making:
		return &object{}
	case dropping:
		return nil
	case writing:
		o.write(d.at, d.data)
	case trimming:
		o.trim(d.at)
	case setting:
		o.set(d.name, d.data)
	}
	return o
}

// torn is a writing of d's first n bytes, but not of all of them.
func (d deed) torn(n int) deed {
	d.data = d.data[:held(n, 0, max(len(d.data)-1, 0))]
	return d
}

// past is what a Fall goes back to: the object as it is dry (nil: it isn't there), and its wet deeds.
type past struct {
	dry   *object
	deeds []deed
}

// copied is another past just like p.
func (p *past) copied() *past {
	return &past{dry: p.dry.copied(), deeds: append([]deed(nil), p.deeds...)}
}

// kept is how many of its wet deeds a Fall leaves that is to keep the first n.
func (p *past) kept(n int) int {
	return held(n, 0, len(p.deeds))
}

// left is the object that a Fall leaves behind its first n wet deeds, and torn bytes of the next one. It works on dry itself: nobody asks for this past again.
func (p *past) left(n, torn int) *object {
	o := p.dry
	n = p.kept(n)
	for _, d := range p.deeds[:n] {
		o = d.done(o)
	}
	if n < len(p.deeds) && p.deeds[n].kind == writing {
		o = p.deeds[n].torn(torn).done(o)
	}
	return o
}

// held is n held between low and high.
func held(n, low, high int) int {
	return min(max(n, low), high)
}
