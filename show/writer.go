package show

import (
	"strconv"

	"tribunal/api"
)

// writer writes a program's parts; their words are gathered by the builder that it embeds.
type writer struct{ builder }

func (w *writer) templates(l ...api.Template) {
	for _, t := range l {
		w.open("template", t.Name)
		for _, f := range t.Slots {
			w.open(f.Name, typeName(f.Type))
			w.shut()
		}
		w.shut()
	}
}

// typeName is how a type is written; "none", if it is no slot's.
func typeName(kind int) string {
	switch kind {
	case api.Num:
		return "num"
	case api.Text:
		return "text"
	case api.Sym:
		return "sym"
	case api.Bool:
		return "bool"
	}
	return "none"
}

func (w *writer) rules(l ...api.Rule) {
	for _, r := range l {
		w.open("rule", r.Name)
		w.values(strconv.Itoa(r.Salience))
		w.open()
		w.conds(r.Conds...)
		w.shut()
		w.open()
		w.acts(r.Acts...)
		w.shut()
		w.shut()
	}
}
