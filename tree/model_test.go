package tree_test

import (
	"strings"
	"unicode/utf8"

	"wainload/api"
)

const (
	leastTime = -1 << 63
	mostTime  = 1<<63 - 1
	leastTar  = -9000000000000000000
	mostTar   = 9000000000000000000
	leastZip  = -9223372036854775800 // the least multiple of 100 that is an int64
)

// slowCheck is P16.1, word by word.
func slowCheck(t []api.Entry) api.Errno {
	if len(t) > 1000 {
		return api.ErrTreeOver
	}
	for n := range t {
		if err := slowCheckOne(t, n); err != api.OK {
			return err
		}
	}
	return api.OK
}

// slowCheckOne asks of one entry all that the promise names, in its order.
func slowCheckOne(t []api.Entry, n int) api.Errno {
	e := t[n]
	switch {
	case !slowClean(e.Path):
		return api.ErrTreeForm
	case e.Kind != 1 && e.Kind != 2 && e.Kind != 3:
		return api.ErrTreeForm
	case e.Mode < 0, e.Mode > 4095:
		return api.ErrTreeForm
	case e.Kind == 1 && len(e.Target) > 0:
		return api.ErrTreeForm
	case e.Kind == 2 && len(e.Data)+len(e.Target) > 0:
		return api.ErrTreeForm
	case e.Kind == 3 && len(e.Data) > 0:
		return api.ErrTreeForm
	case e.Kind == 3 && (len(e.Target) == 0 || len(e.Target) > 200 || strings.IndexByte(e.Target, 0) >= 0 || !utf8.ValidString(e.Target)):
		return api.ErrTreeForm
	case len(e.Data) > 1048576:
		return api.ErrTreeOver
	case n > 0 && e.Path == t[n-1].Path:
		return api.ErrTreeTwice
	case n > 0 && strings.Compare(e.Path, t[n-1].Path) < 0:
		return api.ErrTreeForm
	}
	for _, x := range t[:n] {
		if x.Kind != 2 && strings.HasPrefix(e.Path, x.Path+"/") {
			return api.ErrTreeForm
		}
	}
	return api.OK
}

// slowClean tells whether a path is clean already: each part is a name.
func slowClean(path string) bool {
	for _, part := range strings.Split(path, "/") {
		if part == "" || part == "." || part == ".." {
			return false
		}
	}
	return len(path) <= 200 && strings.IndexByte(path, 0) < 0 && utf8.ValidString(path)
}

// slowSort takes the first of the least Paths, again and again.
func slowSort(t []api.Entry) []api.Entry {
	rest := append([]api.Entry{}, t...)
	var sorted []api.Entry
	for len(rest) > 0 {
		least := 0
		for n, e := range rest {
			if strings.Compare(e.Path, rest[least].Path) < 0 {
				least = n
			}
		}
		sorted = append(sorted, rest[least])
		rest = append(rest[:least], rest[least+1:]...)
	}
	return sorted
}

// slowFind goes from the last entry to the first, so that the first one counts.
func slowFind(t []api.Entry, path string) (api.Entry, bool) {
	var found api.Entry
	is := false
	for n := len(t) - 1; n >= 0; n-- {
		if t[n].Path == path {
			found, is = t[n], true
		}
	}
	return found, is
}

func slowSize(t []api.Entry) int {
	var all strings.Builder
	for _, e := range t {
		all.WriteString(e.Data)
	}
	return all.Len()
}

// slowSame holds field against field.
func slowSame(a, b []api.Entry) bool {
	if len(a) != len(b) {
		return false
	}
	for n, x := range a {
		y := b[n]
		if x.Kind != y.Kind || x.Path != y.Path || x.Target != y.Target || x.Mode != y.Mode || x.Time != y.Time || x.Data != y.Data {
			return false
		}
	}
	return true
}

func slowCan(t []api.Entry, format int) bool {
	if slowCheck(t) != api.OK || format < 1 || format > 3 {
		return false
	}
	for _, e := range t {
		if format == 2 && (e.Time < leastTar || e.Time > mostTar) {
			return false
		}
		if format == 1 && e.Time < leastZip {
			return false
		}
	}
	return true
}

func slowProject(t []api.Entry, format int) []api.Entry {
	kept := append([]api.Entry{}, t...)
	for n := range kept {
		if format == 1 {
			kept[n].Time = slowFloor(kept[n].Time)
		}
	}
	return kept
}

// slowFloor looks for the multiple of 100 step by step.
func slowFloor(t int64) int64 {
	for v := t; ; v-- {
		if v%100 == 0 {
			return v
		}
		if v == leastTime {
			return t
		}
	}
}
