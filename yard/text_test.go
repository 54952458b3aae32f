package yard_test

import (
	"fmt"
	"math/rand"
	"regexp"
	"slices"
	"strconv"
	"strings"
	"testing"

	"yard/api"
	"yard/yard"
)

func ExampleWrite() {
	y := api.Yard{Rows: 1, Cols: 3, Cells: "...", Carts: []api.Cart{{From: 0, To: 2}}, Budget: 100}
	s, e := yard.Write(y)
	fmt.Print(s, e)
	// Output:
	// yard 100
	// ...
	// 0 0 0 2
	// 0
}

func ExampleRead() {
	fmt.Println(yard.Read("yard 100\n...\n0 0 0 2\n"))
	// At the byte 6 it is seen that this is no text; there is no column 3.
	fmt.Println(yard.Read("yard 01"))
	fmt.Println(yard.Read("yard 100\n...\n0 0 0 3\n"))
	// Output:
	// {1 3 ... [{0 2}] 100} 0 0
	// {0 0  [] 0} 11 6
	// {0 0  [] 0} 4 0
}

func sameYard(a, b api.Yard) bool {
	return a.Rows == b.Rows && a.Cols == b.Cols && a.Cells == b.Cells && a.Budget == b.Budget && slices.Equal(a.Carts, b.Carts)
}

// short: a string for a message.
func short(s string) string {
	if len(s) > 200 {
		return strconv.Quote(s[:200]) + ".. (" + strconv.Itoa(len(s)) + " bytes)"
	}
	return strconv.Quote(s)
}

// readsAs: Read tells this yard.
func readsAs(t *testing.T, s string, want api.Yard) {
	t.Helper()
	if y, e, n := yard.Read(s); !sameYard(y, want) || e != api.OK || n != 0 {
		t.Errorf("P10: Read(%s) = %v, %d, %d, want %v", short(s), y, e, n, want)
	}
}

// readsNot: Read tells this error and this number, and no yard.
func readsNot(t *testing.T, s string, want api.Errno, number int) {
	t.Helper()
	if y, e, n := yard.Read(s); !sameYard(y, api.Yard{}) || y.Carts != nil || e != want || n != number {
		t.Errorf("P10: Read(%s) = %v, %d, %d, want %d, %d", short(s), y, e, n, want, number)
	}
}

func TestTextsOfYards(t *testing.T) {
	full := strings.Repeat("....../", 5) + "......"
	for _, c := range []struct {
		y api.Yard
		s string
	}{
		{made("...", 0, 2), "yard 100\n...\n0 0 0 2\n"},
		{changed(made(".", 0, 0), func(y *api.Yard) { y.Budget = 1 }), "yard 1\n.\n0 0 0 0\n"},
		{changed(made("#.", 1, 1), func(y *api.Yard) { y.Budget = 10 }), "yard 10\n#.\n0 1 0 1\n"},
		{wide("./#/.", 0, 2, 2, 0), "yard 20000\n.\n#\n.\n0 0 2 0\n2 0 0 0\n"},
		{wide(".../#.#", 0, 4, 4, 2), "yard 20000\n...\n#.#\n0 0 1 1\n1 1 0 2\n"},
		{made("#..#/..../#..#", 1, 10, 4, 7, 7, 4), "yard 100\n#..#\n....\n#..#\n0 1 2 2\n1 0 1 3\n1 3 1 0\n"},
		{made(full, 0, 35, 5, 30, 30, 5, 35, 0), "yard 100\n" + strings.Repeat("......\n", 6) + "0 0 5 5\n0 5 5 0\n5 0 0 5\n5 5 0 0\n"},
		{made("./././././.", 0, 5, 5, 0), "yard 100\n" + strings.Repeat(".\n", 6) + "0 0 5 0\n5 0 0 0\n"},
		{made("......", 0, 5, 5, 0), "yard 100\n......\n0 0 0 5\n0 5 0 0\n"},
	} {
		if s, e := yard.Write(c.y); s != c.s || e != api.OK {
			t.Errorf("P10: Write(%v) = %q, %d, want %q", c.y, s, e, c.s)
		}
		readsAs(t, c.s, c.y)
	}
}

func TestWriteOfNoYard(t *testing.T) {
	good := made("...", 0, 2, 2, 0)
	for _, c := range []struct {
		y    api.Yard
		want api.Errno
	}{
		{api.Yard{}, api.ErrSide},
		{changed(good, func(y *api.Yard) { y.Cols = 1 << 62 }), api.ErrSide},
		{changed(good, func(y *api.Yard) { y.Cells = ".." }), api.ErrCells},
		{changed(good, func(y *api.Yard) { y.Cells = "..\n" }), api.ErrCells},
		{changed(good, func(y *api.Yard) { y.Carts = nil }), api.ErrCarts},
		{changed(good, func(y *api.Yard) { y.Carts[1].To = -1 }), api.ErrPlace},
		{changed(good, func(y *api.Yard) { y.Carts[1].To = 2 }), api.ErrTwice},
		{changed(good, func(y *api.Yard) { y.Budget = 0 }), api.ErrBudget},
		{changed(good, func(y *api.Yard) { y.Budget = api.MaxBudget + 1 }), api.ErrBudget},
	} {
		if s, e := yard.Write(c.y); s != "" || e != c.want {
			t.Errorf("P10: Write(%v) = %q, %d, want %d", c.y, s, e, c.want)
		}
	}
}

// What Write has written is the yard again, and what Read has read is the text again.
func TestWrittenAndReadAgain(t *testing.T) {
	chance := rand.New(rand.NewSource(13))
	for i := range 2000 {
		y := someYard(chance)
		if i%2 == 0 {
			y = greatYard(chance)
		}
		y.Budget = 1 + chance.Intn(api.MaxBudget)
		y.Carts = someCarts(chance, y, 1+chance.Intn(api.MaxCarts))
		s, e := yard.Write(y)
		if e != api.OK || !isText(s) {
			t.Fatalf("P10: Write(%v) = %q, %d, no text", y, s, e)
		}
		readsAs(t, s, y)
		again, _, _ := yard.Read(s)
		if twice, _ := yard.Write(again); twice != s {
			t.Errorf("P10: Write of what Read tells of %q = %q", s, twice)
		}
	}
}

// The place is told, with each thing that may be wrong.
func TestReadNoText(t *testing.T) {
	for _, c := range []struct {
		s     string
		place int
	}{
		// The first line.
		{"", 0}, {" ", 0}, {"\n", 0}, {"Yard 1\n", 0}, {"yArd 1\n", 1}, {"yarn", 3}, {"yard", 4}, {"yard\n", 4}, {"yard\t1\n", 4}, {"yards 1\n", 4},
		{"yard ", 5}, {"yard \n", 5}, {"yard  1\n", 5}, {"yard x\n", 5}, {"yard -1\n", 5}, {"yard +1\n", 5}, {"yard .\n", 5}, {"\xef\xbb\xbfyard 1\n", 0},
		{"yard 0", 6}, {"yard 00\n", 6}, {"yard 01\n", 6}, {"yard 1 \n", 6}, {"yard 1.0\n", 6}, {"yard 1\r\n", 6}, {"yard 1\x00", 6}, {"yard 1e3\n", 6},
		{"yard 12345", 10}, {"yard 123456\n", 10}, {"yard 100000\n", 10}, {"yard 00000\n", 6}, {"yard 99999999999999999999\n", 10}, {"yard 1234a\n", 9},
		{"yard :\n", 5}, {"yard /\n", 5}, {"yard 1:\n", 6}, {"yard 1/\n", 6}, {"yard ١\n", 5},
		// The rows.
		{"yard 1\n", 7}, {"yard 1\n\n", 7}, {"yard 1\n0 0 0 0\n", 7}, {"yard 1\n \n", 7}, {"yard 1\nx\n", 7}, {"yard 1\n.", 8}, {"yard 1\n.x\n", 8},
		{"yard 1\n. \n", 8}, {"yard 1\n.\r\n", 8}, {"yard 1\n.0\n", 8}, {"yard 1\n.#/", 9}, {"yard 1\n.#\"", 9}, {"yard 1\n.$", 8}, {"yard 1\n.-", 8},
		{"yard 1\n..\n", 10}, {"yard 1\n..\n\n", 10}, {"yard 1\n..\n.\n", 11}, {"yard 1\n..\n.0", 11}, {"yard 1\n..\n.#.", 12}, {"yard 1\n..\n.#", 12},
		{"yard 1\n..\n##0", 12}, {"yard 1\n..\nx", 10}, {"yard 1\n..\n..\n...\n", 15}, {"yard 1\n...\n...\n..\n", 17}, {"yard 1\n.\n#\n.\n##\n", 14},
		// The carts.
		{"yard 1\n.\n0", 10}, {"yard 1\n.\n0\n", 10}, {"yard 1\n.\n00 0 0 0\n", 10}, {"yard 1\n.\n0 \n", 11}, {"yard 1\n.\n0  0 0 0\n", 11}, {"yard 1\n.\n0\t0 0 0\n", 10},
		{"yard 1\n.\n 0 0 0 0\n", 9}, {"yard 1\n.\n-1 0 0 0\n", 9}, {"yard 1\n.\n0 -1 0 0\n", 11}, {"yard 1\n.\n0 0 0\n", 14}, {"yard 1\n.\n0 0 0 \n", 15},
		{"yard 1\n.\n0 0 0 0", 16}, {"yard 1\n.\n0 0 0 0 ", 16}, {"yard 1\n.\n0 0 0 0 0\n", 16}, {"yard 1\n.\n0 0 0 0\r\n", 16}, {"yard 1\n.\n0 0 0 00\n", 16},
		{"yard 1\n.\n99999 99999 99999 99999", 32}, {"yard 1\n.\n123456 0 0 0\n", 14}, {"yard 1\n.\n0 123456 0 0\n", 16}, {"yard 1\n.\n0 0 0 123456\n", 20}, {"yard 1\n.\n0 01", 12},
		// Behind the first cart.
		{"yard 1\n.\n0 0 0 0\n\n", 17}, {"yard 1\n.\n0 0 0 0\n.\n", 17}, {"yard 1\n.\n0 0 0 0\n#\n0 0 0 0\n", 17}, {"yard 1\n.\n0 0 0 0\n ", 17}, {"yard 1\n.\n0 0 0 0\n\x00", 17},
		{"yard 1\n.\n0 0 0 0\nyard 1\n", 17}, {"yard 1\n.\n0 0 0 0\n0", 18}, {"yard 1\n.\n0 0 0 0\n0\n", 18}, {"yard 1\n.\n0 0 0 0\n0 0 0 0", 24}, {"yard 1\n.\n0 0 0 0\n0 0 0 0\n\n", 25},
	} {
		readsNot(t, c.s, api.ErrText, c.place)
	}
}

// A text whose yard is none: Check's error and its number.
func TestReadNoYard(t *testing.T) {
	seven := strings.Repeat(".\n", 7)
	for _, c := range []struct {
		s      string
		e      api.Errno
		number int
	}{
		{"yard 1\n.......\n0 0 0 0\n", api.ErrSide, 0}, {"yard 1\n" + seven + "0 0 0 0\n", api.ErrSide, 0}, {"yard 0\n.......\n9 9 9 9\n", api.ErrSide, 0},
		{"yard 1\n.\n" + strings.Repeat("0 0 0 0\n", 5), api.ErrCarts, 0}, {"yard 0\n.\n" + strings.Repeat("9 9 9 9\n", 5), api.ErrCarts, 0},
		{"yard 1\n..\n0 0 0 2\n", api.ErrPlace, 0}, {"yard 1\n..\n0 2 0 0\n", api.ErrPlace, 0}, {"yard 1\n..\n1 0 0 0\n", api.ErrPlace, 0}, {"yard 1\n..\n0 0 1 0\n", api.ErrPlace, 0},
		{"yard 1\n.#\n0 1 0 0\n", api.ErrPlace, 0}, {"yard 1\n.#\n0 0 0 1\n", api.ErrPlace, 0}, {"yard 1\n..\n0 0 0 0\n0 1 99999 99999\n", api.ErrPlace, 1},
		{"yard 1\n#\n0 0 0 0\n", api.ErrPlace, 0}, {"yard 0\n..\n0 0 0 2\n", api.ErrPlace, 0},
		{"yard 1\n..\n0 0 0 1\n0 0 0 0\n", api.ErrTwice, 1}, {"yard 1\n..\n0 0 0 1\n0 1 0 1\n", api.ErrTwice, 1}, {"yard 1\n...\n0 0 0 0\n0 1 0 1\n0 2 0 1\n", api.ErrTwice, 2},
		{"yard 0\n..\n0 0 0 1\n0 0 0 0\n", api.ErrTwice, 1},
		{"yard 0\n.\n0 0 0 0\n", api.ErrBudget, 0}, {"yard 20001\n.\n0 0 0 0\n", api.ErrBudget, 0}, {"yard 99999\n.\n0 0 0 0\n", api.ErrBudget, 0},
		// Outside of its row or its column, but by number it would be a cell.
		{"yard 1\n..\n..\n0 2 0 0\n", api.ErrPlace, 0}, {"yard 1\n..\n..\n0 0 0 3\n", api.ErrPlace, 0}, {"yard 1\n..\n..\n0 0 0 1\n0 1 0 2\n", api.ErrPlace, 1},
		{"yard 1\n..\n..\n0 0 0 1\n0 2 0 0\n0 2 0 0\n", api.ErrPlace, 1},
		// No text goes ahead of no yard.
		{"yard 0\n.\n0 0 0 0\nx", api.ErrText, 17}, {"yard 1\n.......\n0 0 0 0", api.ErrText, 22}, {"yard 99999\n" + seven + "..\n", api.ErrText, 26},
	} {
		readsNot(t, c.s, c.e, c.number)
	}
}

// The numbers at their edges, each in its place.
func TestReadNumbers(t *testing.T) {
	for _, n := range []int{1, 9, 10, 99, 100, 999, 1000, 9999, 10000, 19999, 20000} {
		y := changed(made("..", 0, 1), func(y *api.Yard) { y.Budget = n })
		readsAs(t, "yard "+strconv.Itoa(n)+"\n..\n0 0 0 1\n", y)
	}
	for _, n := range []int{0, 20001, 20010, 30000, 99999} {
		readsNot(t, "yard "+strconv.Itoa(n)+"\n..\n0 0 0 1\n", api.ErrBudget, 0)
	}
	y := made("../..", 3, 3)
	for _, n := range []string{"0", "1", "2", "3", "4", "9", "10", "65536", "99999"} {
		for place := range 4 {
			numbers := []string{"1", "1", "1", "1"}
			numbers[place] = n
			s := "yard 100\n..\n..\n" + strings.Join(numbers, " ") + "\n"
			if n != "0" && n != "1" {
				readsNot(t, s, api.ErrPlace, 0)
				continue
			}
			bit := int(n[0] - '0')
			want := [4]api.Cart{{From: 1 + 2*bit, To: 3}, {From: 2 + bit, To: 3}, {From: 3, To: 1 + 2*bit}, {From: 3, To: 2 + bit}}
			y.Carts = []api.Cart{want[place]}
			readsAs(t, s, y)
		}
	}
}

// What goes on long is read to its end, or to the byte that is wrong.
func TestReadLong(t *testing.T) {
	const n = 1 << 20
	cart := "0 0 0 0\n"
	for _, c := range []struct {
		s      string
		e      api.Errno
		number int
	}{
		{"yard 1\n" + strings.Repeat(".", n), api.ErrText, 7 + n},
		{"yard 1\n" + strings.Repeat("#", n) + "\n" + cart, api.ErrSide, 0},
		{"yard 1\n" + strings.Repeat(".", n) + "\n" + strings.Repeat(".", n-1) + "\n" + cart, api.ErrText, 7 + n + 1 + n - 1},
		{"yard 1\n" + strings.Repeat(".\n", n) + "99999 0 99999 0\n", api.ErrSide, 0},
		{"yard 1\n" + strings.Repeat(".\n", n) + ".0 0 0 0\n", api.ErrText, 7 + 2*n + 1},
		{"yard 1\n.\n" + strings.Repeat(cart, n), api.ErrCarts, 0},
		{"yard 1\n.\n" + strings.Repeat(cart, n) + ".\n", api.ErrText, 9 + len(cart)*n},
		{"yard " + strings.Repeat("1", n), api.ErrText, 10},
		{strings.Repeat("yard ", n), api.ErrText, 5},
		{strings.Repeat("\x00", n), api.ErrText, 0},
	} {
		readsNot(t, c.s, c.e, c.number)
	}
}

var lines = regexp.MustCompile(`\Ayard (?:0|[1-9][0-9]{0,4})\n((?:[.#]+\n)+)(?:(?:0|[1-9][0-9]{0,4})(?: (?:0|[1-9][0-9]{0,4})){3}\n)+\z`)

// isText holds a string against the document's form of a text.
func isText(s string) bool {
	found := lines.FindStringSubmatch(s)
	if found == nil {
		return false
	}
	rows := strings.Fields(found[1])
	return !slices.ContainsFunc(rows, func(row string) bool { return len(row) != len(rows[0]) })
}

// begins tells whether some text begins so: one that goes on as a short one ends, or that first fills up a row.
func begins(s string) bool {
	const end = "0\n.\n0 0 0 0\n"
	for i := range len(end) + 1 {
		if isText(s + end[i:]) {
			return true
		}
	}
	for n := range len(s) {
		if isText(s + strings.Repeat(".", n) + "\n0 0 0 0\n") {
			return true
		}
	}
	return len(s) < 5 && strings.HasPrefix("yard ", s)
}

// wordsPlace works out the place by the document's words: the length of the longest beginning with which some text begins.
func wordsPlace(s string) int {
	for n := len(s); n > 0; n-- {
		if begins(s[:n]) {
			return n
		}
	}
	return 0
}

// wordsYard takes the yard from a text by the document's words.
func wordsYard(s string) api.Yard {
	var y api.Yard
	cell := func(row, col int) int {
		if row >= y.Rows || col >= y.Cols {
			return -1
		}
		return row*y.Cols + col
	}
	for i, line := range strings.Split(strings.TrimSuffix(s, "\n"), "\n") {
		switch {
		case i == 0:
			y.Budget, _ = strconv.Atoi(line[5:])
		case line[0] == '.' || line[0] == '#':
			y.Rows, y.Cols, y.Cells = y.Rows+1, len(line), y.Cells+line
		default:
			var n [4]int
			for i, field := range strings.Split(line, " ") {
				n[i], _ = strconv.Atoi(field)
			}
			y.Carts = append(y.Carts, api.Cart{From: cell(n[0], n[1]), To: cell(n[2], n[3])})
		}
	}
	return y
}

// readByTheWords holds what Read tells against what the document's words tell.
func readByTheWords(t *testing.T, s string) api.Errno {
	t.Helper()
	if !isText(s) {
		readsNot(t, s, api.ErrText, wordsPlace(s))
		return api.ErrText
	}
	y := wordsYard(s)
	e, number := yard.Check(y)
	if e != api.OK {
		readsNot(t, s, e, number)
		return e
	}
	readsAs(t, s, y)
	return api.OK
}

var sampleTexts = []string{
	"yard 100\n...\n0 0 0 2\n",
	"yard 7\n.\n0 0 0 0\n",
	"yard 20000\n..#\n#..\n0 0 1 2\n1 1 0 1\n",
	"yard 10000\n.\n#\n.\n0 0 99999 0\n",
	"yard 99999\n.......\n10 0 0 10\n0 0 0 0\n0 0 0 0\n",
}

// Texts that break off at any byte: all of them begins some text, and is none.
func TestReadBreaksOff(t *testing.T) {
	for _, s := range sampleTexts {
		ahead := strings.Index(s, "0 ")
		firstCart := ahead + strings.Index(s[ahead:], "\n") + 1
		for n := range firstCart {
			readsNot(t, s[:n], api.ErrText, n)
		}
		for n := range len(s) + 1 {
			readByTheWords(t, s[:n])
		}
	}
}

// One wrong byte at any place: each byte there is, in another's stead and between two; or one is left out, or stands twice.
func TestReadOneWrongByte(t *testing.T) {
	bytes := []byte("\x00\t\n\r !\"#$+-./0123459:;.yard Y\x7f\x80\xff")
	for _, s := range sampleTexts {
		for place := range len(s) + 1 {
			for _, b := range bytes {
				readByTheWords(t, s[:place]+string([]byte{b})+s[place:])
				if place < len(s) {
					readByTheWords(t, s[:place]+string([]byte{b})+s[place+1:])
				}
			}
			if place < len(s) {
				readByTheWords(t, s[:place]+s[place+1:])
				readByTheWords(t, s[:place]+s[place:place+1]+s[place:])
			}
		}
	}
	s := sampleTexts[0]
	for place := range len(s) {
		for b := range 256 {
			readByTheWords(t, s[:place]+string([]byte{byte(b)})+s[place+1:])
		}
	}
}

// Texts whose lines are left out, stand twice or change places, and whose bytes are changed by chance.
func TestReadByTheWords(t *testing.T) {
	chance := rand.New(rand.NewSource(14))
	ofErrno := map[api.Errno]int{}
	pieces := []string{"yard ", "0", "1", "20000", "20001", "99999", " ", "\n", ".\n", "..\n", "#.\n", "0 0 0 1\n", "1 0 0 0\n", "0 1 1 0\n", "0 0 0 0\n", "2 0 0 0\n"}
	for range 20000 {
		list := []string{"yard ", []string{"9", "0", "20000", "20001", "00"}[chance.Intn(5)], "\n"}
		rows := []string{"..\n", ".#\n", "#.\n"}
		for range 1 + chance.Intn(3) {
			list = append(list, rows[chance.Intn(3)])
		}
		for range 1 + chance.Intn(3) {
			list = append(list, pieces[11+chance.Intn(5)])
		}
		if chance.Intn(2) == 0 {
			list[chance.Intn(len(list))] = pieces[chance.Intn(len(pieces))]
		}
		ofErrno[readByTheWords(t, strings.Join(list, ""))]++
	}
	for _, e := range []api.Errno{api.OK, api.ErrPlace, api.ErrTwice, api.ErrBudget, api.ErrText} {
		if ofErrno[e] < 100 {
			t.Errorf("errors told: %v: chance tests too little of %d", ofErrno, e)
		}
	}
}
