package asm

import (
	"iter"
	"strings"

	"undertow/api"
)

// What lines are cut by.
const (
	lineEnd = "\n"
	remark  = "#"
	blank   = " "
)

// each goes through a source's lines, by their numbers from 1 on, without what is left out of them.
func each(source string) iter.Seq2[int, string] {
	return func(yield func(n int, line string) bool) {
		for k, line := range strings.Split(source, lineEnd) {
			line, _, _ = strings.Cut(line, remark)
			if !yield(k+1, strings.Trim(line, blank)) {
				return
			}
		}
	}
}

// through does something with what each of a source's lines says at its place, till there is an error; it is that error, and its line.
func through(source string, do func(s statement, place int) api.Errno) (int, api.Errno) {
	place := 0
	for n, line := range each(source) {
		s, ok := read(line)
		if !ok {
			return n, api.ErrForm
		}
		if e := do(s, place); e != api.OK {
			return n, e
		}
		place = s.behind(place)
	}
	return 0, api.OK
}
