package world

import (
	"strings"

	"tribunal/api"
	"tribunal/bind"
	"tribunal/engine"
	"tribunal/value"
)

// line is one that is done: the engine that does it, its tokens, and the names of the engine's rules.
type line struct {
	*engine.Engine
	reader
	rules []string
}

// deeds is what does a line, by its first name, whose other tokens are to be read; each tells what the line tells, or what is wrong with it.
func deeds() map[string]func(*line) (string, api.Errno) {
	return map[string]func(*line) (string, api.Errno){
		"assert":  (*line).assert,
		"retract": (*line).retract,
		"modify":  (*line).modify,
		"run":     (*line).run,
		"query":   (*line).query,
		"facts":   (*line).facts,
		"agenda":  (*line).agenda,
	}
}

func (l *line) assert() (string, api.Errno) {
	tmpl := l.name()
	vals := rest(&l.reader, l.value)
	if !l.right() {
		return "", api.ErrForm
	}
	return fact(l.Assert(tmpl, vals))
}

func (l *line) retract() (string, api.Errno) {
	id := l.number()
	if !l.right() {
		return "", api.ErrForm
	}
	return "ok\n", l.Retract(id)
}

func (l *line) modify() (string, api.Errno) {
	id := l.number()
	puts := rest(&l.reader, l.put)
	if !l.right() {
		return "", api.ErrForm
	}
	return fact(l.Modify(id, puts))
}

func (l *line) run() (string, api.Errno) {
	fuel := l.number()
	if !l.right() {
		return "", api.ErrForm
	}
	fired, stop := l.Run(fuel)
	return each(fired, l.fired) + why(stop) + "\n", api.OK
}

func (l *line) query() (string, api.Errno) {
	conds := l.conditions()
	if !l.right() {
		return "", api.ErrForm
	}
	rows, err := l.Query(conds)
	return each(rows, bind.Text) + end, err
}

func (l *line) facts() (string, api.Errno) {
	if !l.right() {
		return "", api.ErrForm
	}
	return each(l.Facts(), known) + end, api.OK
}

func (l *line) agenda() (string, api.Errno) {
	if !l.right() {
		return "", api.ErrForm
	}
	return each(l.Agenda(), l.todo) + end, api.OK
}

// end is what is told behind a list.
const end = "end\n"

// each is a line of each of l, in order.
func each[T any](l []T, one func(T) string) string {
	var told strings.Builder
	for _, v := range l {
		told.WriteString(one(v))
		told.WriteString("\n")
	}
	return told.String()
}

// fact tells the number of a fact that has come.
func fact(id int, err api.Errno) (string, api.Errno) {
	return "fact " + decimals(id) + "\n", err
}

// known tells a fact.
func known(f api.Fact) string {
	told := "#" + decimals(f.Id) + " " + f.Tmpl
	for _, v := range f.Vals {
		told += " " + value.Show(v)
	}
	return told
}

// todo tells what is to be done.
func (l *line) todo(c api.Change) string { return l.rules[c.Rule] + " " + bind.Text(c.T) }

// fired tells what was done.
func (l *line) fired(f api.Fired) string {
	told := "fired " + l.todo(api.Change{Rule: f.Rule, T: f.T})
	for _, v := range f.Prints {
		told += "> " + value.Show(v) + " "
	}
	if f.Err != api.OK {
		told += "error " + decimals(int(f.Err)) + " "
	}
	return told
}

// why tells why a run has stopped.
func why(stop int) string {
	switch stop {
	case api.StopHalt:
		return "halt"
	case api.StopFuel:
		return "fuel"
	}
	return "empty"
}
