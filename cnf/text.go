package cnf

import (
	"iter"
	"strconv"
	"strings"

	"metronome/api"
)

const head = "p cnf "

// written are the bytes of the formula's text.
func written(f api.Formula) []byte {
	text := append([]byte(head), strconv.Itoa(f.Vars)...)
	text = append(text, ' ')
	text = strconv.AppendInt(text, int64(len(f.Clauses)), 10)
	text = append(text, '\n')
	for _, clause := range f.Clauses {
		for _, literal := range clause {
			text = strconv.AppendInt(text, int64(literal), 10)
			text = append(text, ' ')
		}
		text = append(text, "0\n"...)
	}
	return text
}

// reader reads a text from its beginning on. Once bad it stays so, and what it
// answers means nothing any more.
type reader struct {
	rest string
	bad  bool
}

// formula reads the whole text.
func (r *reader) formula() api.Formula {
	r.word(head)
	f := api.Formula{Vars: r.ahead(r.count, " ")}
	for clause := range r.clauses(r.ahead(r.count, "\n")) {
		f.Clauses = append(f.Clauses, clause)
	}
	if r.rest != "" {
		r.bad = true
	}
	return f
}

// clauses tells so many clauses, or those ahead of the first that is bad: how
// many there are to be, says the text, which may say any number.
func (r *reader) clauses(count int) iter.Seq[[]int] {
	return func(yield func([]int) bool) {
		for range count {
			clause := r.clause()
			if r.bad || !yield(clause) {
				return
			}
		}
	}
}

// clause reads literals, and the 0 behind them.
func (r *reader) clause() []int {
	var clause []int
	for !r.bad && !strings.HasPrefix(r.rest, "0") {
		clause = append(clause, r.ahead(r.literal, " "))
	}
	r.word("0\n")
	return clause
}

// ahead reads a number, and the text that must stand behind it.
func (r *reader) ahead(read func() int, behind string) int {
	number := read()
	r.word(behind)
	return number
}

// literal reads a number that may be below 0. It takes "-0", too, which as 0
// is no literal that Check takes.
func (r *reader) literal() int {
	rest, below := strings.CutPrefix(r.rest, "-")
	r.rest = rest
	if below {
		return -r.count()
	}
	return r.count()
}

// count reads a number that is not below 0, without zeros ahead.
func (r *reader) count() int {
	digits := r.rest[:len(r.rest)-len(strings.TrimLeft(r.rest, "0123456789"))]
	r.rest = r.rest[len(digits):]
	number, err := strconv.Atoi(digits)
	if err != nil || len(digits) > 1 && digits[0] == '0' {
		r.bad = true
	}
	return number
}

// word reads just this text.
func (r *reader) word(text string) {
	rest, ok := strings.CutPrefix(r.rest, text)
	r.rest = rest
	if !ok {
		r.bad = true
	}
}
