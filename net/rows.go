package net

import (
	"tribunal/api"
	"tribunal/join"
)

// rows is what a rule's conditions hold for; what has come, and what has gone, since that was told last. What came and went between is in neither.
type rows struct {
	there, come, gone *join.Memory
	held              int
}

// newRows is that of the conditions whose node that is.
func newRows(n node) *rows {
	r := &rows{there: join.NewMemory()}
	r.forget()
	hear(n, r.take)
	r.forget()
	return r
}

func (r *rows) take(d api.Delta) {
	r.there.Take(d)
	r.held += step(d)
	to, back := r.come, r.gone
	if !d.Add {
		to, back = back, to
	}
	if !back.Take(api.Delta{T: d.T}) {
		to.Take(api.Delta{Add: true, T: d.T})
	}
}

// forget has nothing have come, or gone.
func (r *rows) forget() {
	r.come, r.gone = join.NewMemory(), join.NewMemory()
}
