package script

import (
	"strconv"
	"strings"

	"lockfast/api"
)

const (
	maxNumber = 999999
	maxWord   = 1<<64 - 1
	maxKeep   = 200
)

// verb is what lines of a first word are: their other words' kinds, by letters (n a number, v a name's, x a word, k what is kept), what there must be ahead of them, and what they do.
type verb struct {
	form  string
	ready func() bool
	do    func(args) string
}

// args are a line's other words: numbers, in order; a word, and what is kept, if it has one.
type args struct {
	n    []int
	x    uint64
	keep []uint8
}

// told is a line that is right.
type told struct {
	verb verb
	args args
}

func (t told) tell() string {
	if !t.verb.ready() {
		return "none"
	}
	return t.verb.do(t.args)
}

// parse is what a line says, if it says something.
func parse(verbs map[string]verb, line string) (told, bool) {
	words := strings.Split(line, " ")
	v, ok := verbs[words[0]]
	words = words[1:]
	if !ok || len(words) != len(v.form) {
		return told{}, false
	}
	var a args
	for i, kind := range v.form {
		if !a.read(kind, words[i]) {
			return told{}, false
		}
	}
	return told{v, a}, true
}

// read has a word of a kind be among the args, if it is one.
func (a *args) read(kind rune, word string) bool {
	switch kind {
	case 'x':
		x, ok := number(word, maxWord)
		a.x = x
		return ok
	case 'k':
		keep, ok := digits(word)
		a.keep = keep
		return ok
	}
	most := uint64(maxNumber)
	if kind == 'v' {
		most = api.Vars - 1
	}
	n, ok := number(word, most)
	a.n = append(a.n, int(n))
	return ok
}

// number is a decimal one without more digits than it must have.
func number(word string, most uint64) (uint64, bool) {
	n, err := strconv.ParseUint(word, 10, 64)
	return n, err == nil && n <= most && strconv.FormatUint(n, 10) == word
}

// digits are what is kept in a crash.
func digits(word string) ([]uint8, bool) {
	if word == "-" {
		return nil, true
	}
	var keep []uint8
	for i := range len(word) {
		if word[i] < '0' || word[i] > '2' {
			return nil, false
		}
		keep = append(keep, word[i]-'0')
	}
	return keep, len(keep) >= 1 && len(keep) <= maxKeep
}
