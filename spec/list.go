package spec

import (
	"strconv"

	"homograph/api"
	"homograph/pattern"
	"homograph/words"
)

// end is the kind of what stands behind all words. No word is of that kind.
const end = -1

// problem is what ends the reading: an error, and where it is.
type problem struct {
	err api.Errno
	at  int
}

func fail(err api.Errno, at int) { panic(problem{err, at}) }

// list is the words that are still to be read. The last one is the end, which stays.
type list struct{ left []words.Word }

// here is the next word.
func (l *list) here() words.Word { return l.left[0] }

// wrong ends the reading, because the next word cannot stand here.
func (l *list) wrong() { fail(api.ErrSpec, l.here().At) }

// take reads a word of a kind.
func (l *list) take(kind int) words.Word {
	word := l.here()
	if word.Kind != kind {
		l.wrong()
	}
	l.left = l.left[1:]
	return word
}

// skip reads a mark if it is the next word, and tells whether it was.
func (l *list) skip(mark string) bool {
	word := l.here()
	is := word.Kind == words.Mark && word.Text == mark
	if is {
		l.take(words.Mark)
	}
	return is
}

// expect reads a mark, for which nothing else can stand here.
func (l *list) expect(mark string) {
	if !l.skip(mark) {
		l.wrong()
	}
}

// seesName tells whether the next word is a name that isn't reserved.
func (l *list) seesName() bool {
	word := l.here()
	return word.Kind == words.Name && !Reserved(word.Text)
}

// name reads a name that isn't reserved.
func (l *list) name() string {
	if !l.seesName() {
		l.wrong()
	}
	return l.take(words.Name).Text
}

// names reads names up to a word that is none.
func (l *list) names() []string {
	var names []string
	for l.seesName() {
		names = append(names, l.name())
	}
	return names
}

// number reads a number.
func (l *list) number() int {
	// It has four digits at most, so that it always is an int.
	n, _ := strconv.Atoi(l.take(words.Number).Text)
	return n
}

// pattern reads a pattern.
func (l *list) pattern() api.Node {
	word := l.take(words.Pattern)
	n, err, at := pattern.Parse(word.Text)
	if err != api.OK {
		// The Text begins behind the slash.
		fail(err, word.At+1+at)
	}
	return n
}

// ways are how to read what stands behind the reserved names that can stand somewhere.
type ways map[string]func()

// follow reads a reserved name that has a way, and what stands behind it, and tells whether there was one.
func (l *list) follow(w ways) bool {
	word := l.here()
	read, ok := w[word.Text]
	if !ok || word.Kind != words.Name {
		return false
	}
	l.take(words.Name)
	read()
	return true
}
