package simfs

import (
	"fmt"
	"maps"
	"math/big"
	"regexp"
	"slices"

	"headgate/api"
)

// A plainFile has the bytes that are safe, and those behind them.
type plainFile struct{ safe, more string }

// A plainDir has its entries as they were at each moment since they lasted: the first are base, the last are what is there.
type plainDir struct{ moments []map[string]*plainFile }

func (d *plainDir) entries() map[string]*plainFile { return d.moments[len(d.moments)-1] }

// change makes one more moment, of which it hands on the entries.
func (d *plainDir) change(do func(map[string]*plainFile)) {
	next := maps.Clone(d.entries())
	do(next)
	d.moments = append(d.moments, next)
}

// settle leaves one moment alone.
func (d *plainDir) settle(k int) { d.moments = d.moments[k : k+1] }

// A plainFS is what the chapter's words say of a file system: by moments, where the package goes by operations.
type plainFS struct {
	dirs              map[string]*plainDir
	room, steps, fuse int
	on                bool
}

func newPlain(room int) *plainFS {
	return &plainFS{dirs: map[string]*plainDir{}, room: room, fuse: -1, on: true}
}

func (f *plainFS) used() int {
	n := 0
	for _, d := range f.dirs {
		for _, x := range d.entries() {
			n += len(x.safe + x.more)
		}
	}
	return n
}

// A call is one of the calls by its name, and what is handed in.
type call struct {
	what, dir, name, to string
	b                   string
	n                   int
	turn                byte
	picks               []int
}

func (c call) String() string {
	switch c.what {
	case "Room", "Fuse":
		return fmt.Sprintf("%s(%d)", c.what, c.n)
	case "Crash":
		return fmt.Sprintf("Crash(%v)", c.picks)
	}
	return fmt.Sprintf("%s(%q, %q, %q, %d bytes, %d, %d)", c.what, c.dir, c.name, c.to, len(c.b), c.n, c.turn)
}

// on does the call on f.
func (c call) on(f *FS) api.Errno {
	switch c.what {
	case "Mkdir":
		return f.Mkdir(c.dir)
	case "Create":
		return f.Create(c.dir, c.name)
	case "Append":
		return f.Append(c.dir, c.name, []byte(c.b))
	case "Sync":
		return f.Sync(c.dir, c.name)
	case "SyncDir":
		return f.SyncDir(c.dir)
	case "Rename":
		return f.Rename(c.dir, c.name, c.to)
	case "Remove":
		return f.Remove(c.dir, c.name)
	case "Read":
		_, e := f.Read(c.dir, c.name)
		return e
	case "List":
		_, e := f.List(c.dir)
		return e
	case "Room":
		return f.Room(c.n)
	case "Fuse":
		return f.Fuse(c.n)
	case "Crash":
		return f.Crash(c.picks...)
	case "Spoil":
		return f.Spoil(c.dir, c.name, c.n, c.turn)
	case "Plant":
		return f.Plant(c.dir, c.name, []byte(c.b))
	}
	panic(c.what)
}

// The calls by what their errors hang on.
var (
	steps    = []string{"Mkdir", "Create", "Append", "Sync", "SyncDir", "Rename", "Remove"}
	powered  = append([]string{"Read", "List"}, steps...)
	ofDirs   = append([]string{"Spoil", "Plant"}, powered...)
	ofNames  = []string{"Create", "Append", "Sync", "Rename", "Remove", "Read", "Spoil", "Plant"}
	ofFiles  = []string{"Append", "Sync", "Rename", "Remove", "Read", "Spoil"}
	everyOne = append([]string{"Room", "Fuse", "Crash"}, ofDirs...)
)

var plainName = regexp.MustCompile(`^[a-z0-9.]{1,32}$`)

// found answers the first error of those that a call has.
func (f *plainFS) found(c call) api.Errno {
	has := func(l []string) bool { return slices.Contains(l, c.what) }
	if has(powered) && !f.on {
		return api.ErrDown
	}
	if has(ofDirs) {
		names := []string{c.dir}
		if has(ofNames) {
			names = append(names, c.name)
		}
		if c.what == "Rename" {
			names = append(names, c.to)
		}
		if slices.ContainsFunc(names, func(s string) bool { return !plainName.MatchString(s) }) {
			return api.ErrName
		}
	}
	d := f.dirs[c.dir]
	if has(ofDirs) && c.what != "Mkdir" && d == nil {
		return api.ErrNoDir
	}
	if has(ofFiles) && d.entries()[c.name] == nil {
		return api.ErrNoFile
	}
	return f.toldOf(c, d)
}

// toldOf answers the first error of those that the chapter tells call by call.
func (f *plainFS) toldOf(c call, d *plainDir) api.Errno {
	type fault struct {
		is bool
		e  api.Errno
	}
	var l []fault
	switch c.what {
	case "Mkdir":
		l = []fault{{d != nil, api.ErrThere}, {len(f.dirs) == 64, api.ErrMany}}
	case "Create":
		l = []fault{{d.entries()[c.name] != nil, api.ErrThere}, {len(d.entries()) == 4096, api.ErrMany}}
	case "Append":
		x := d.entries()[c.name]
		l = []fault{{len(x.safe+x.more+c.b) > 16777216, api.ErrLong}, {f.used()+len(c.b) > f.room, api.ErrFull}}
	case "Spoil":
		x := d.entries()[c.name]
		l = []fault{{c.n < 0, api.ErrArg}, {c.n >= len(x.safe+x.more), api.ErrArg}}
	case "Plant":
		l = []fault{{len(c.b) > 16777216, api.ErrLong}, {d.entries()[c.name] == nil && len(d.entries()) == 4096, api.ErrMany}}
	case "Room":
		l = []fault{{c.n < 0, api.ErrArg}, {c.n > 1<<30, api.ErrArg}}
	case "Fuse":
		l = []fault{{c.n < 0, api.ErrArg}}
	}
	for _, x := range l {
		if x.is {
			return x.e
		}
	}
	return api.OK
}

// do does the call.
func (f *plainFS) do(c call) api.Errno {
	if e := f.found(c); e != api.OK {
		return e
	}
	if slices.Contains(steps, c.what) {
		if f.fuse == 0 {
			f.on = false
			return api.ErrDown
		}
		if f.fuse > 0 {
			f.fuse--
		}
		f.steps++
	}
	f.done(c)
	return api.OK
}

// done does what the chapter says of a call that is OK.
func (f *plainFS) done(c call) {
	d := f.dirs[c.dir]
	switch c.what {
	case "Mkdir":
		f.dirs[c.dir] = &plainDir{[]map[string]*plainFile{{}}}
	case "Create":
		d.change(func(m map[string]*plainFile) { m[c.name] = &plainFile{} })
	case "Append":
		d.entries()[c.name].more += c.b
	case "Sync":
		x := d.entries()[c.name]
		x.safe, x.more = x.safe+x.more, ""
	case "SyncDir":
		d.settle(len(d.moments) - 1)
	case "Rename":
		d.change(func(m map[string]*plainFile) {
			x := m[c.name]
			delete(m, c.name)
			m[c.to] = x
		})
	case "Remove":
		d.change(func(m map[string]*plainFile) { delete(m, c.name) })
	case "Room":
		f.room = c.n
	case "Fuse":
		f.fuse = c.n
	case "Crash":
		f.crash(c.picks)
	case "Spoil":
		d.entries()[c.name].spoil(c.n, c.turn)
	case "Plant":
		d.change(func(m map[string]*plainFile) { m[c.name] = &plainFile{safe: c.b} })
		d.settle(len(d.moments) - 1)
	}
}

func (x *plainFile) spoil(at int, turn byte) {
	b, n := []byte(x.safe+x.more), len(x.safe)
	b[at] ^= turn
	x.safe, x.more = string(b[:n]), string(b[n:])
}

// crash: picks stay whole, and at says which one is the next.
func (f *plainFS) crash(picks []int) {
	f.on, f.fuse = true, -1
	at := 0
	pick := func(n int) int {
		k := 0
		if at < len(picks) {
			k = plainMod(picks[at], n+1)
		}
		at++
		return k
	}
	dirs := slices.Sorted(maps.Keys(f.dirs))
	for _, dir := range dirs {
		f.dirs[dir].settle(pick(len(f.dirs[dir].moments) - 1))
	}
	for _, dir := range dirs {
		m := f.dirs[dir].entries()
		for _, name := range slices.Sorted(maps.Keys(m)) {
			x := m[name]
			x.safe, x.more = x.safe+x.more[:pick(len(x.more))], ""
		}
	}
}

// plainMod answers p, as a number without a sign, modulo n.
func plainMod(p, n int) int {
	x := big.NewInt(int64(p))
	if p < 0 {
		x.Add(x, new(big.Int).Lsh(big.NewInt(1), 64))
	}
	return int(x.Mod(x, big.NewInt(int64(n))).Int64())
}

// A seen is all that a file system tells of itself.
type seen struct {
	dirs        []string
	files       []string
	used, steps int
	on          bool
}

func (s seen) String() string {
	return fmt.Sprintf("%v %q used %d steps %d on %t", s.dirs, s.files, s.used, s.steps, s.on)
}

func (s seen) same(o seen) bool {
	return slices.Equal(s.dirs, o.dirs) && slices.Equal(s.files, o.files) && s.used == o.used && s.steps == o.steps && s.on == o.on
}

// seenOf answers what f tells; without power of its files nothing.
func seenOf(f *FS) seen {
	s := seen{dirs: f.Dirs(), used: f.Used(), steps: f.Steps(), on: f.On()}
	for _, dir := range s.dirs {
		names, e := f.List(dir)
		s.files = append(s.files, fmt.Sprintf("%s: %d", dir, e))
		for _, name := range names {
			b, e := f.Read(dir, name)
			s.files = append(s.files, fmt.Sprintf("%s/%s: %q %d", dir, name, b, e))
		}
	}
	return s
}

// seen answers what f is to tell.
func (f *plainFS) seen() seen {
	s := seen{dirs: slices.Sorted(maps.Keys(f.dirs)), used: f.used(), steps: f.steps, on: f.on}
	for _, dir := range s.dirs {
		if !f.on {
			s.files = append(s.files, fmt.Sprintf("%s: %d", dir, api.ErrDown))
			continue
		}
		s.files = append(s.files, fmt.Sprintf("%s: %d", dir, api.OK))
		m := f.dirs[dir].entries()
		for _, name := range slices.Sorted(maps.Keys(m)) {
			s.files = append(s.files, fmt.Sprintf("%s/%s: %q %d", dir, name, m[name].safe+m[name].more, api.OK))
		}
	}
	return s
}
