package yard_test

import (
	"fmt"
	"math/rand"
	"slices"
	"strconv"
	"strings"
	"sync"
	"testing"

	"yard/api"
	"yard/yard"
)

func ExampleSession_Ask() {
	s := yard.Open()
	fmt.Print(s.Ask("yard 100\n...\n0 0 0 2\n"))
	fmt.Print(s.Ask("yard 100\n...\n0 0 0 2\n0 2 0 0\n"))
	fmt.Print(s.Ask("yard 1\n...\n0 0 0 2\n"))
	fmt.Print(s.Ask("yard 01"))
	fmt.Print(s.Ask("yard 100\n...\n0 0 0 3\n"))
	// Output:
	// plan 2
	// rr
	// none
	// many
	// error 11 6
	// error 4 0
}

// asked: requests that have one answer alone.
var asked = []struct{ request, answer string }{
	// Plans: each way that a step may go, in rows and columns of all kinds.
	{"yard 100\n...\n0 0 0 2\n", "plan 2\nrr\n"},
	{"yard 100\n...\n0 2 0 0\n", "plan 2\nll\n"},
	{"yard 100\n.\n.\n.\n0 0 2 0\n", "plan 2\ndd\n"},
	{"yard 100\n.\n.\n.\n2 0 0 0\n", "plan 2\nuu\n"},
	{"yard 100\n..\n..\n0 0 1 0\n", "plan 1\nd\n"},
	{"yard 100\n..\n..\n1 1 0 1\n", "plan 1\nu\n"},
	{"yard 100\n..#\n#..\n0 0 1 2\n", "plan 3\nrdr\n"},
	{"yard 100\n..#\n#..\n1 2 0 0\n", "plan 3\nlul\n"},
	{"yard 100\n......\n#####.\n......\n0 0 2 0\n", "plan 12\nrrrrrddlllll\n"},
	{"yard 20000\n..\n..\n0 0 0 1\n0 1 1 1\n1 1 1 0\n1 0 0 0\n", "plan 4\nr\nd\nl\nu\n"},
	{"yard 100\n#.#\n...\n0 1 1 1\n1 1 1 2\n", "plan 2\nd\nr\n"},
	// A cart that stays has an empty line; one that must let another by waits.
	{"yard 1\n.\n0 0 0 0\n", "plan 0\n\n"},
	{"yard 100\n.#.\n0 0 0 0\n0 2 0 2\n", "plan 0\n\n\n"},
	{"yard 100\n....\n0 0 0 0\n0 1 0 3\n", "plan 2\n\nrr\n"},
	{"yard 100\n..#.\n0 3 0 3\n0 0 0 1\n", "plan 1\n\nr\n"},
	{"yard 9999\n....\n##.#\n1 2 0 3\n0 0 1 2\n", "plan 5\nur\nrrd\n"},
	{"yard 9999\n#...\n..##\n0 3 0 1\n1 0 0 2\n", "none\n"},
	// At the budget.
	{"yard 3\n...\n0 0 0 2\n", "plan 2\nrr\n"}, {"yard 2\n...\n0 0 0 2\n", "many\n"}, {"yard 2\n...\n0 0 0 0\n", "many\n"},
	{"yard 3\n...\n0 0 0 2\n0 2 0 0\n", "none\n"}, {"yard 2\n...\n0 0 0 2\n0 2 0 0\n", "many\n"}, {"yard 1\n.#.\n0 0 0 2\n", "none\n"},
	{"yard 11\n..\n..\n0 0 1 1\n1 1 0 0\n", "many\n"}, {"yard 9\n..\n0 0 0 1\n0 1 0 0\n", "none\n"}, {"yard 9\n...\n.#.\n0 0 0 2\n0 2 0 0\n", "many\n"},
	{"yard 10\n...\n.#.\n0 0 0 2\n0 2 0 0\n", "none\n"},
	// Errors, with Read's number.
	{"", "error 11 0\n"}, {"\n", "error 11 0\n"}, {"yard 01", "error 11 6\n"}, {"yard 123456", "error 11 10\n"}, {"yard 1\n..\n.\n", "error 11 11\n"},
	{"yard 100\n...\n0 0 0 2", "error 11 20\n"}, {"yard 100\n...\n0 0 0 2\n\n", "error 11 21\n"}, {"yard 1\n" + strings.Repeat(".", 1000), "error 11 1007\n"},
	{"yard 100\n.......\n0 0 0 2\n", "error 1 0\n"}, {"yard 100\n.\n" + strings.Repeat("0 0 0 0\n", 5), "error 3 0\n"},
	{"yard 100\n...\n0 0 0 3\n", "error 4 0\n"}, {"yard 100\n...\n0 0 0 2\n0 1 1 0\n", "error 4 1\n"}, {"yard 100\n...\n0 0 0 2\n0 1 0 1\n0 2 0 2\n", "error 5 2\n"},
	{"yard 0\n...\n0 0 0 2\n", "error 6 0\n"}, {"yard 20001\n...\n0 0 0 2\n", "error 6 0\n"},
}

func answered(t *testing.T, s *yard.Session, request, want string) {
	t.Helper()
	if answer := s.Ask(request); answer != want {
		t.Errorf("P11: Ask(%s) = %q, want %q", short(request), answer, want)
	}
}

func TestAsk(t *testing.T) {
	for _, c := range asked {
		answered(t, yard.Open(), c.request, c.answer)
	}
}

// In one session and in several in turns, in any order and more than once: the answer is a new session's.
func TestAskInTurns(t *testing.T) {
	one, several := yard.Open(), []*yard.Session{yard.Open(), yard.Open(), yard.Open()}
	chance := rand.New(rand.NewSource(15))
	for range 20 {
		for _, i := range chance.Perm(len(asked)) {
			answered(t, one, asked[i].request, asked[i].answer)
			answered(t, several[chance.Intn(3)], asked[i].request, asked[i].answer)
		}
	}
	for _, c := range asked {
		for _, s := range several {
			answered(t, s, c.request, c.answer)
			answered(t, s, c.request, c.answer)
		}
	}
}

// Where many plans cost the same, it is the same one that is told in every session and at every time.
func TestAskOfManyPlans(t *testing.T) {
	requests := []string{
		"yard 20000\n....\n....\n....\n0 0 2 3\n", "yard 20000\n....\n....\n..##\n0 0 1 1\n1 1 0 0\n0 2 2 0\n",
		"yard 20000\n...\n#.#\n0 0 0 2\n0 2 0 0\n", "yard 20000\n...\n...\n...\n0 0 2 2\n2 2 0 0\n0 2 2 0\n2 0 0 2\n",
	}
	want := map[string]string{}
	for _, request := range requests {
		want[request] = yard.Open().Ask(request)
	}
	one, other := yard.Open(), yard.Open()
	for range 20 {
		for i := range requests {
			answered(t, one, requests[i], want[requests[i]])
			back := requests[len(requests)-1-i]
			answered(t, other, back, want[back])
			answered(t, other, back[1:], "error 11 0\n")
		}
	}
}

// Sessions that are asked at the same time do not come into each other's way.
func TestAskAtTheSameTime(t *testing.T) {
	shared := yard.Open()
	var all sync.WaitGroup
	for i := range 8 {
		all.Go(func() {
			s := yard.Open()
			for j := range asked {
				c := asked[(i*7+j)%len(asked)]
				answered(t, s, c.request, c.answer)
				answered(t, shared, c.request, c.answer)
			}
		})
	}
	all.Wait()
}

// walked follows the letters of an answer's lines: the paths, or false if they are none of the yard.
func walked(y api.Yard, answer string) ([][]int, bool) {
	list := strings.Split(answer, "\n")
	if len(list) != len(y.Carts)+2 || list[len(list)-1] != "" {
		return nil, false
	}
	var plan [][]int
	for i, c := range y.Carts {
		row, col := c.From/y.Cols, c.From%y.Cols
		path := []int{c.From}
		for _, letter := range list[i+1] {
			switch letter {
			case 'u':
				row--
			case 'd':
				row++
			case 'l':
				col--
			case 'r':
				col++
			case 'w':
			default:
				return nil, false
			}
			if row < 0 || row >= y.Rows || col < 0 || col >= y.Cols {
				return nil, false
			}
			path = append(path, row*y.Cols+col)
		}
		plan = append(plan, path)
	}
	return plan, true
}

// The answer tells what Solve tells.
func TestAskTellsSolves(t *testing.T) {
	chance := rand.New(rand.NewSource(16))
	session := yard.Open()
	ofKind := map[string]int{}
	letters := map[rune]int{}
	for i := range 300 {
		y := someYard(chance)
		if i%10 == 0 {
			y = greatYard(chance)
		}
		y.Carts = someCarts(chance, y, 1+chance.Intn(api.MaxCarts))
		y.Budget = []int{100, 1000, api.MaxBudget}[chance.Intn(3)]
		request, _ := yard.Write(y)
		answer := session.Ask(request)
		plan, cost, e := yard.Solve(y)
		kind, _, _ := strings.Cut(strings.TrimSuffix(answer, "\n"), " ")
		ofKind[kind]++
		switch e {
		case api.ErrNone:
			answered(t, session, request, "none\n")
		case api.ErrMany:
			answered(t, session, request, "many\n")
		default:
			if paths, ok := walked(y, answer); !ok || !slices.EqualFunc(paths, plan, slices.Equal) || !strings.HasPrefix(answer, "plan "+strconv.Itoa(cost)+"\n") {
				t.Errorf("P11: Ask(%q) = %q, but Solve tells %v, %d", request, answer, plan, cost)
			}
			for _, letter := range strings.TrimPrefix(answer, "plan ") {
				letters[letter]++
			}
		}
	}
	for _, kind := range []string{"plan", "none", "many"} {
		if ofKind[kind] < 10 {
			t.Errorf("answers of each kind: %v: chance tests too little", ofKind)
		}
	}
	for _, letter := range "udlrw" {
		if letters[letter] < 10 {
			t.Errorf("%d letters %c: chance tests too little", letters[letter], letter)
		}
	}
}

// What is no text or no good yard: the answer has Read's error and Read's number.
func TestAskTellsReadsErrors(t *testing.T) {
	session := yard.Open()
	for _, s := range sampleTexts {
		for place := range len(s) {
			for _, b := range []byte("\x00\n .#05x\xff") {
				request := s[:place] + string([]byte{b}) + s[place+1:]
				_, e, number := yard.Read(request)
				if e == api.OK {
					continue
				}
				answered(t, session, request, "error "+strconv.Itoa(int(e))+" "+strconv.Itoa(number)+"\n")
			}
		}
	}
}
