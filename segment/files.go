package segment

import (
	"sort"
	"strings"

	"headgate/api"
	"headgate/frame"
	"headgate/place"
)

// mark is what the name of a segment begins with, ahead of its first record's number.
const mark = "s."

// head is how many bytes of a frame are ahead of its record: those of the length and of the sum.
const head = 8

// name answers the name of the segment whose first record has the number first.
func name(first int64) string { return mark + place.Hex(first) }

// numbers answers the numbers of the segments' first records, of those of names that are segments'.
func numbers(names []string) []int64 {
	var firsts []int64
	for _, name := range names {
		digits, ok := strings.CutPrefix(name, mark)
		if !ok {
			continue
		}
		if first, ok := place.Unhex(digits); ok {
			firsts = append(firsts, first)
		}
	}
	return firsts
}

// good answers the records of the good frames with which b begins, as pieces of b, and how many bytes these frames have.
func good(b []byte) ([][]byte, int) {
	var records [][]byte
	length := 0
	for at, record := range frame.All(b) {
		if len(record) > api.MaxRecord {
			break
		}
		from := at + head
		length = from + len(record)
		// Of three indices, so that who appends to a record doesn't write over the next one.
		records = append(records, b[from:length:length])
	}
	return records, length
}

// take takes in the segments of these first numbers, as far as their records go on, and removes those behind.
func (l *Log) take(firsts []int64) api.Errno {
	for i, first := range firsts {
		if first != l.end {
			return l.remove(firsts[i:])
		}
		whole, e := l.takeOne(first)
		if e != api.OK {
			return e
		}
		if !whole {
			return l.remove(firsts[i+1:])
		}
	}
	return api.OK
}

// takeOne takes in a segment, and answers whether it was whole; of one that wasn't it leaves the good frames alone.
func (l *Log) takeOne(first int64) (bool, api.Errno) {
	b, e := l.f.Read(l.dir, name(first))
	if e != api.OK {
		return false, e
	}
	records, length := good(b)
	l.firsts, l.length = append(l.firsts, first), length
	l.end += int64(len(records))
	if length == len(b) {
		return true, api.OK
	}
	return false, place.Raw(l.f, l.dir, name(first), b[:length])
}

// remove takes away the segments of these first numbers, and sees to it that they don't come back.
func (l *Log) remove(firsts []int64) api.Errno {
	if len(firsts) == 0 {
		return api.OK
	}
	for _, first := range firsts {
		if e := l.f.Remove(l.dir, name(first)); e != api.OK {
			return e
		}
	}
	return l.f.SyncDir(l.dir)
}

// begin makes a segment for the next record on.
func (l *Log) begin() api.Errno {
	// Ahead of the new one, so that no crash takes records that others are behind.
	if e := l.Sync(); e != api.OK {
		return e
	}
	if e := l.f.Create(l.dir, name(l.end)); e != api.OK {
		return e
	}
	if e := l.f.SyncDir(l.dir); e != api.OK {
		return e
	}
	l.firsts, l.length = append(l.firsts, l.end), 0
	return api.OK
}

// last answers the first number of the last segment; there is one.
func (l *Log) last() int64 { return l.firsts[len(l.firsts)-1] }

// holder answers which segment has the record at.
func (l *Log) holder(at int64) int {
	return sort.Search(len(l.firsts), func(i int) bool { return l.firsts[i] > at }) - 1
}

// readSome answers those records from from on, ahead of to, that the segment i has; from is one of its numbers.
func (l *Log) readSome(i int, from, to int64) ([][]byte, api.Errno) {
	first, behind := l.firsts[i], l.end
	if i+1 < len(l.firsts) {
		behind = l.firsts[i+1]
	}
	b, e := l.f.Read(l.dir, name(first))
	if e != api.OK {
		return nil, e
	}
	records, _ := good(b)
	if int64(len(records)) < behind-first {
		return nil, api.ErrTorn
	}
	return records[from-first : min(to, behind)-first], api.OK
}
