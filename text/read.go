package text

import (
	"strings"

	"yard/api"
	"yard/grid"
)

// mostDigits: a number has no more of them.
const mostDigits = 5

// reader goes through a string byte by byte, and never beyond a byte with which no text goes on. So where it stops is
// the length of the longest beginning with which some text begins.
type reader struct {
	s  string
	at int
}

// Read reads the yard that a text tells, be it a good one or not. If the string is no text: false, and the length of its
// longest beginning with which some text begins.
func Read(s string) (api.Yard, int, bool) {
	r := reader{s: s}
	var y api.Yard
	if r.budget(&y) && r.rows(&y) && r.carts(&y) {
		return y, 0, true
	}
	return api.Yard{}, r.at, false
}

// budget reads the first line.
func (r *reader) budget(y *api.Yard) bool {
	for i := range len(head) {
		if !r.take(head[i]) {
			return false
		}
	}
	n, ok := r.number()
	y.Budget = n
	return ok && r.take(newline)
}

// rows reads the lines of cells. The first tells how long all of them are.
func (r *reader) rows(y *api.Yard) bool {
	first := r.cells(len(r.s))
	if first == "" || !r.take(newline) {
		return false
	}
	y.Rows, y.Cols = 1, len(first)
	// The cells are written anew, for what was handed in is not to be kept.
	var all strings.Builder
	all.WriteString(first)
	for r.beforeCell() {
		row := r.cells(y.Cols)
		if len(row) < y.Cols || !r.take(newline) {
			return false
		}
		all.WriteString(row)
		y.Rows++
	}
	y.Cells = all.String()
	return true
}

// carts reads the lines of carts, up to the end of the string.
func (r *reader) carts(y *api.Yard) bool {
	for len(y.Carts) == 0 || r.at < len(r.s) {
		c, ok := r.cart(*y)
		if !ok {
			return false
		}
		y.Carts = append(y.Carts, c)
	}
	return true
}

func (r *reader) cart(y api.Yard) (api.Cart, bool) {
	var numbers [4]int
	for i := range numbers {
		if i > 0 && !r.take(blank) {
			return api.Cart{}, false
		}
		n, ok := r.number()
		if !ok {
			return api.Cart{}, false
		}
		numbers[i] = n
	}
	from, to := grid.At(y, numbers[0], numbers[1]), grid.At(y, numbers[2], numbers[3])
	return api.Cart{From: from, To: to}, r.take(newline)
}

// cells reads cells, as many as there are up to a most.
func (r *reader) cells(most int) string {
	begin := r.at
	for r.at-begin < most && r.beforeCell() {
		r.at++
	}
	return r.s[begin:r.at]
}

// number reads `0`, or a digit that is not 0 and what more digits there are up to the most.
func (r *reader) number() (int, bool) {
	n, ok := r.digit()
	if n == 0 {
		return 0, ok
	}
	for range mostDigits - 1 {
		d, more := r.digit()
		if !more {
			break
		}
		n = 10*n + d
	}
	return n, true
}

func (r *reader) digit() (int, bool) {
	if r.at == len(r.s) || r.s[r.at] < '0' || r.s[r.at] > '9' {
		return 0, false
	}
	r.at++
	return int(r.s[r.at-1] - '0'), true
}

// take goes past a byte, if that is the next.
func (r *reader) take(b byte) bool {
	if r.at == len(r.s) || r.s[r.at] != b {
		return false
	}
	r.at++
	return true
}

func (r *reader) beforeCell() bool { return r.at < len(r.s) && grid.IsCell(r.s[r.at]) }
