package engine

import (
	"strconv"

	"tribunal/api"
	"tribunal/expr"
)

// firing is an engine in which a rule's tuple is done, and what that has done so far.
type firing struct {
	*Engine
	api.Fired
	halts bool
}

// fire does what is to be done first.
func (e *Engine) fire(c api.Change) *firing {
	// Ahead of the actions, as these may have it hold no more, and hold again.
	e.agenda.Fire()
	f := &firing{Engine: e, Fired: api.Fired{Rule: c.Rule, T: c.T}}
	f.do(e.acts[c.Rule])
	return f
}

// do does actions, until one is wrong, or halts.
func (f *firing) do(l []api.Act) {
	by := kinds()
	for _, a := range l {
		if f.Err = by[a.Kind](f, a); f.Err != api.OK {
			return
		}
		f.Done++
		if f.halts {
			return
		}
	}
}

// kinds is what does an action of each kind, and tells what is wrong with it.
func kinds() map[int]func(*firing, api.Act) api.Errno {
	return map[int]func(*firing, api.Act) api.Errno{
		api.ActAssert:  (*firing).assert,
		api.ActRetract: (*firing).retract,
		api.ActModify:  (*firing).modify,
		api.ActPrint:   (*firing).print,
		api.ActHalt:    (*firing).halt,
	}
}

func (f *firing) assert(a api.Act) api.Errno {
	l, err := f.puts(a.Fills)
	if err != api.OK {
		return err
	}
	// A program that may be fills each slot once.
	vals := make([]api.Value, len(l))
	for _, p := range l {
		i, _ := f.may.Slot(a.Tmpl, p.Name)
		vals[i] = p.V
	}
	_, err = f.Assert(a.Tmpl, vals)
	return err
}

func (f *firing) retract(a api.Act) api.Errno { return f.Retract(f.number(a.Var)) }

func (f *firing) modify(a api.Act) api.Errno {
	l, err := f.puts(a.Fills)
	if err != api.OK {
		return err
	}
	_, err = f.Modify(f.number(a.Var), l)
	return err
}

func (f *firing) print(a api.Act) api.Errno {
	v, err := f.value(a.E)
	if err != api.OK {
		return err
	}
	f.Prints = append(f.Prints, v)
	return api.OK
}

func (f *firing) halt(api.Act) api.Errno {
	f.halts = true
	return api.OK
}

// value is what an expression comes to, by the tuple's variables.
func (f *firing) value(e api.Expr) (api.Value, api.Errno) { return expr.Value(e, f.T.Binds) }

// puts is what slots are to have; else what is wrong with the first one that is.
func (f *firing) puts(l []api.Fill) ([]api.Put, api.Errno) {
	puts := make([]api.Put, len(l))
	for i, one := range l {
		v, err := f.value(one.E)
		if err != api.OK {
			return nil, err
		}
		puts[i] = api.Put{Name: one.Name, V: v}
	}
	return puts, api.OK
}

// number is that of the fact that a variable is; 0, the number of no fact, if it is none: the least one of nothing.
func (f *firing) number(name string) int {
	v, _ := expr.Find(f.T.Binds, name)
	id, err := strconv.Atoi(v.S)
	if err != nil {
		return 0
	}
	return id
}
