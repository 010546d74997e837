package low

import (
	"strings"

	"galley/api"
	"galley/doc"
)

// part writes a part of a document, or plans what it is put together of.
type part func(m *maker)

// maker makes a document. What is still to be written stands in a list, not in the stack of calls, for trees may be deeper than calls can go. And what is whole is put in its place once: doc's makers copy all that they are given, at each level anew, so they make only what has nothing in it yet.
type maker struct {
	todo []part    // what is still to be written, the last one first
	open []api.Doc // what is not whole yet, each within the one ahead
}

// made is the document that p writes: a row, but of one part that one.
func made(p part) api.Doc {
	m := &maker{open: []api.Doc{doc.Cat()}}
	m.plan(p)
	for len(m.todo) > 0 {
		last := len(m.todo) - 1
		next := m.todo[last]
		m.todo = m.todo[:last]
		next(m)
	}
	d := m.open[0]
	if len(d.L) == 1 {
		return d.L[0]
	}
	return d
}

// plan has l written, one behind the other, ahead of all that was planned before.
func (m *maker) plan(l ...part) {
	for k := range l {
		m.todo = append(m.todo, l[len(l)-1-k])
	}
}

// put puts d, which is whole, behind what is in the innermost document that is not.
func (m *maker) put(d api.Doc) {
	within := &m.open[len(m.open)-1]
	within.L = append(within.L, d)
}

// end puts the innermost document, which is whole now, into the one that it stands in.
func (m *maker) end() {
	last := len(m.open) - 1
	d := m.open[last]
	m.open = m.open[:last]
	m.put(d)
}

// row is l, one behind the other.
func row(l ...part) part {
	return func(m *maker) {
		m.plan(l...)
	}
}

// within is l in d, in which nothing stands yet.
func within(d api.Doc, l ...part) part {
	return func(m *maker) {
		m.open = append(m.open, d)
		m.plan(row(l...), (*maker).end)
	}
}

// nest is l, its lines one step further to the right.
func nest(l ...part) part {
	return within(doc.Nest(api.Step), l...)
}

// group is l on one line, if it fits and nothing in it must be broken.
func group(l ...part) part {
	return within(doc.Group(), l...)
}

// boxed is a group of l that must be broken, if a newline was kept.
func boxed(broken bool, l ...part) part {
	if broken {
		return within(doc.Broken(), l...)
	}
	return group(l...)
}

// text is the texts one behind the other.
func text(l ...string) part {
	return func(m *maker) {
		m.put(doc.Text(strings.Join(l, "")))
	}
}

// line is a blank, or a newline.
func line(m *maker) {
	m.put(api.Doc{Kind: api.DLine})
}

// soft is nothing, or a newline.
func soft(m *maker) {
	m.put(api.Doc{Kind: api.DSoft})
}

// hard is a newline.
func hard(m *maker) {
	m.put(api.Doc{Kind: api.DHard})
}
