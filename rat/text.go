package rat

import (
	"strings"

	"tribunal/api"
	"tribunal/digits"
	"tribunal/nat"
)

const (
	most      = 1900 // bytes of a number's text
	mostOther = 900  // bytes of what is a number, written in any way
	mostLimbs = 198  // a number with more limbs than these has more than 1900 digits
)

// parts are what a number is written of.
type parts struct {
	below  bool   // behind a "-"
	up     string // the decimals ahead of "/"
	broken bool   // there is a "/"
	down   string // the decimals behind it; "1" without one
}

// split is what a text is written of; false: it is no number at all.
func split(s string) (parts, bool) {
	rest, below := strings.CutPrefix(s, "-")
	up, down, broken := strings.Cut(rest, "/")
	if !broken {
		down = "1"
	}
	return parts{below, up, broken, down}, digits.Right(up) && digits.Right(down)
}

// number is that of parts, as it is written: not reduced. They have few enough digits for digits.Parse.
func (p parts) number() number {
	up, _ := digits.Parse(p.up)
	down, _ := digits.Parse(p.down)
	return number{p.below, up, down}
}

// read is the number of a number's text; false: it is none, or too long.
func read(s string) (number, bool) {
	if len(s) > most {
		return number{}, false
	}
	p, form := split(s)
	switch {
	case !form, p.below && p.up == "0", p.broken && (p.down == "0" || p.down == "1"):
		return number{}, false
	}
	n := p.number()
	return n, !p.broken || nat.Cmp(nat.Gcd(n.up, n.down), nat.Of(1)) == 0
}

// text is a number's, unless it is too long.
func (n number) text() (string, api.Errno) {
	// A sum may have very many limbs, whose decimals would take long.
	if max(len(n.up), len(n.down)) > mostLimbs {
		return "", api.ErrTooMany
	}
	s := digits.Text(n.up)
	if n.below {
		s = "-" + s
	}
	if down := digits.Text(n.down); down != "1" {
		s += "/" + down
	}
	if len(s) > most {
		return "", api.ErrTooMany
	}
	return s, api.OK
}
