package text

import (
	"strings"

	"yard/api"
)

// The answers where there is no plan.
const (
	Many = "many\n"
	None = "none\n"
)

// Error is the answer to what is no text of a good yard.
func Error(e api.Errno, place int) string {
	var b strings.Builder
	b.WriteString("error ")
	writeLine(&b, int(e), place)
	return b.String()
}

// Plan is the answer that tells a good plan and its cost.
func Plan(y api.Yard, plan [][]int, cost int) string {
	var b strings.Builder
	b.WriteString("plan ")
	writeLine(&b, cost)
	for _, path := range plan {
		for at := range len(path) - 1 {
			b.WriteByte(letter(y, path[at], path[at+1]))
		}
		b.WriteByte(newline)
	}
	return b.String()
}

// letter tells which way a step goes. It looks at rows and columns: by the cells' numbers alone, the cell below and the
// one behind are the same where there is one column.
func letter(y api.Yard, here, there int) byte {
	rows, cols := there/y.Cols-here/y.Cols, there%y.Cols-here%y.Cols
	switch {
	case rows < 0:
		return 'u'
	case rows > 0:
		return 'd'
	case cols < 0:
		return 'l'
	case cols > 0:
		return 'r'
	}
	return 'w'
}
