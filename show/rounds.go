package show

// walk goes along lists, into those in them, each once (as Tarjan does).
type walk struct {
	in    [][]int
	count int
	came  []int  // by list: as the how manieth it was come to; 0: not yet
	first []int  // by list: which of those that are open the least one was to which it leads
	round []int  // by list: its round; 0: it is open, or not come to
	open  []int  // those of which it is not known whether they lead to one that has begun
	fresh []bool // of those that have begun: was it come to just then?
}

// rounds is a number for each list: two have the same one just if each of them stands in the other, however deep, or both are one.
func rounds(in [][]int) []int {
	w := walk{in: in, came: make([]int, len(in)), first: make([]int, len(in)), round: make([]int, len(in))}
	all := make([]int, len(in))
	for n := range all {
		all[n] = n
	}
	nested(all, w.inner, w.begin, w.end)
	return w.round
}

func (w *walk) begin(n int) {
	w.fresh = append(w.fresh, w.came[n] == 0)
	if w.came[n] == 0 {
		w.count++
		w.came[n], w.first[n] = w.count, w.count
		w.open = append(w.open, n)
	}
}

// inner is the lists in the one that has begun last; none, if it was gone into ahead.
func (w *walk) inner(n int) []int {
	if w.fresh[len(w.fresh)-1] {
		return w.in[n]
	}
	return nil
}

func (w *walk) end(n int) {
	last := len(w.fresh) - 1
	fresh := w.fresh[last]
	w.fresh = w.fresh[:last]
	if !fresh {
		return
	}
	for _, inner := range w.in[n] {
		if w.round[inner] == 0 {
			w.first[n] = min(w.first[n], w.first[inner])
		}
	}
	if w.first[n] == w.came[n] {
		w.shut(n)
	}
}

// shut makes a round of n, and of all that were come to behind it and are open: each of these leads to n.
func (w *walk) shut(n int) {
	for w.round[n] == 0 {
		last := len(w.open) - 1
		w.round[w.open[last]] = w.came[n]
		w.open = w.open[:last]
	}
}
