package metalog

import (
	"iter"
	"strings"

	"headgate/api"
	"headgate/code"
	"headgate/place"
)

// numbers walks over the numbers that stand behind mark in names, in their order.
func numbers(names []string, mark string) iter.Seq[int64] {
	return func(yield func(int64) bool) {
		for _, name := range names {
			digits, ok := strings.CutPrefix(name, mark)
			if !ok {
				continue
			}
			if id, ok := place.Unhex(digits); ok && !yield(id) {
				return
			}
		}
	}
}

// readFold takes in the entries of the greatest fold, if there is one.
func (l *Log) readFold() api.Errno {
	n, ok := l.greatest()
	if !ok {
		return api.OK
	}
	b, e := place.Get(l.f, l.dir, foldMark+place.Hex(n))
	if e != api.OK {
		return e
	}
	pairs, e := code.Unpairs(b)
	if e != api.OK {
		return api.ErrTorn
	}
	for _, p := range pairs {
		id, ok := place.Unhex(p.Key)
		if last, is := l.entries.last(); !ok || is && id <= last {
			return api.ErrTorn
		}
		l.entries.set(id, entry{b: []byte(p.Val), folded: true})
	}
	if last, is := l.entries.last(); !is || last != n {
		return api.ErrTorn
	}
	return api.OK
}

// readSingle takes in the entry of a single; where the fold has one of that number, that one holds.
func (l *Log) readSingle(id int64) api.Errno {
	b, e := place.Get(l.f, l.dir, singleMark+place.Hex(id))
	if e != api.OK {
		return e
	}
	was, ok := l.entries.get(id)
	if !ok {
		was.b = b
	}
	was.single = true
	l.entries.set(id, was)
	return api.OK
}

// greatest answers the greatest fold's number, and whether there is a fold.
func (l *Log) greatest() (int64, bool) {
	if len(l.folds) == 0 {
		return 0, false
	}
	return l.folds[len(l.folds)-1], true
}

// putFold lays the fold n, of the entries up.
func (l *Log) putFold(n int64, up *table[entry]) api.Errno {
	var pairs []api.Pair
	for id, v := range up.all() {
		pairs = append(pairs, api.Pair{Key: place.Hex(id), Val: string(v.b)})
	}
	b, e := code.Pairs(pairs)
	if e != api.OK {
		return e
	}
	return place.Put(l.f, l.dir, foldMark+place.Hex(n), b)
}

// leaving walks over the names of those singles and of those folds whose numbers are told to go, rising.
func (l *Log) leaving(single, fold func(int64) bool) iter.Seq[string] {
	return func(yield func(string) bool) {
		for id, v := range l.entries.all() {
			if v.single && single(id) && !yield(singleMark+place.Hex(id)) {
				return
			}
		}
		for _, id := range l.folds {
			if fold(id) && !yield(foldMark+place.Hex(id)) {
				return
			}
		}
	}
}

// remove takes away the files of these names, and sees to it that they don't come back.
func (l *Log) remove(names iter.Seq[string]) api.Errno {
	if none(names) {
		return api.OK
	}
	for name := range names {
		if e := l.f.Remove(l.dir, name); e != api.OK {
			return e
		}
	}
	return l.f.SyncDir(l.dir)
}

// none tells whether names has no name.
func none(names iter.Seq[string]) bool {
	for range names {
		return false
	}
	return true
}
