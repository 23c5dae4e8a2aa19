package shell

import (
	"math"
	"strconv"
	"strings"

	"averment/api"
)

// blank stands between words.
const blank = " "

// maxFuel is how many steps a run may be given.
const maxFuel = 1000

// What a file may be saved as.
const (
	asWhole  = "whole"
	asSparse = "sparse"
)

// kind tells whether a word may stand at a place of a line.
type kind func(word string) bool

// shape is of which kinds the words behind a line's first one must be, and all further ones: nil, if there may be none.
type shape struct {
	words   []kind
	further kind
}

// shapeOf is that of the lines that begin with that word; false: there are none.
func shapeOf(verb string) (shape, bool) {
	switch verb {
	case "put":
		return shape{[]kind{isName, isAny}, isAny}, true
	case "solve":
		return shape{[]kind{isName}, isAny}, true
	case "save":
		return shape{[]kind{isName, isHow}, nil}, true
	case "spoil":
		return shape{[]kind{isName, isNumber, upTo(math.MaxUint8)}, nil}, true
	case "load":
		return shape{[]kind{isName, isName}, nil}, true
	case "merge":
		return shape{[]kind{isName, isName, isName}, nil}, true
	case "run":
		return shape{[]kind{isName, upTo(maxFuel)}, isNumber}, true
	case "show", "facts", "drop":
		return shape{[]kind{isName}, nil}, true
	case "slots":
		return shape{nil, nil}, true
	}
	return shape{}, false
}

// wordsOf are the words of a line; false: it is none.
func wordsOf(line string) ([]string, bool) {
	// This is asked ahead of all else, so that no more words are made than there are.
	if strings.HasPrefix(line, blank) || strings.HasSuffix(line, blank) || strings.Contains(line, blank+blank) {
		return nil, false
	}
	words := strings.Split(line, blank)
	s, ok := shapeOf(words[0])
	if !ok || len(words)-1 < len(s.words) {
		return nil, false
	}
	for i, word := range words[1:] {
		may := s.further
		if i < len(s.words) {
			may = s.words[i]
		}
		if may == nil || !may(word) {
			return nil, false
		}
	}
	return words, true
}

func isAny(string) bool { return true }

func isHow(word string) bool { return word == asWhole || word == asSparse }

// isName tells whether a slot may have that name.
func isName(word string) bool {
	if len(word) < 1 || len(word) > api.MaxName || !isLetter(word[0]) {
		return false
	}
	for i := range len(word) {
		if !isLetter(word[i]) && !isDigit(word[i]) {
			return false
		}
	}
	return true
}

func isLetter(c byte) bool { return c >= 'a' && c <= 'z' }

func isDigit(c byte) bool { return c >= '0' && c <= '9' }

// isNumber tells whether a word is a number, written as it must be.
func isNumber(word string) bool {
	n, e := strconv.ParseInt(word, 10, 64)
	return e == nil && strconv.FormatInt(n, 10) == word
}

// upTo is the kind of numbers from 0 to most.
func upTo(most int64) kind {
	return func(word string) bool {
		return isNumber(word) && number(word) >= 0 && number(word) <= most
	}
}

// number is that of a word that is one.
func number(word string) int64 {
	n, _ := strconv.ParseInt(word, 10, 64)
	return n
}
