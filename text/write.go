// Package text: yards as texts, and answers.
package text

import (
	"strconv"
	"strings"

	"yard/api"
)

// What stands in a text beside its numbers and its cells.
const (
	head    = "yard "
	blank   = ' '
	newline = '\n'
)

// Write writes a good yard.
func Write(y api.Yard) string {
	var b strings.Builder
	b.WriteString(head)
	writeLine(&b, y.Budget)
	for row := range y.Rows {
		b.WriteString(y.Cells[row*y.Cols : (row+1)*y.Cols])
		b.WriteByte(newline)
	}
	for _, c := range y.Carts {
		writeLine(&b, c.From/y.Cols, c.From%y.Cols, c.To/y.Cols, c.To%y.Cols)
	}
	return b.String()
}

// writeLine writes numbers with a blank between each two, and ends the line.
func writeLine(b *strings.Builder, numbers ...int) {
	for i, n := range numbers {
		if i > 0 {
			b.WriteByte(blank)
		}
		b.WriteString(strconv.Itoa(n))
	}
	b.WriteByte(newline)
}
