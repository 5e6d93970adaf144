package disk

import (
	"bytes"
	"math/rand/v2"
	"slices"
	"strings"
	"testing"

	"drover/api"
)

// cell is a byte that knows for itself whether it is synced.
type cell struct {
	b      byte
	synced bool
}

// model is a disk by the chapter's words, in another shape: a list of files, a list of cells each, and a fuse that is below 0 when there is none.
type model struct {
	files []modelFile
	down  bool
	fuse  int
}

type modelFile struct {
	name  string
	cells []cell
}

func (m *model) at(name string) int {
	return slices.IndexFunc(m.files, func(f modelFile) bool { return f.name == name })
}

func modelName(s string) bool {
	return len(s) >= 1 && len(s) <= 32 && strings.Trim(s, "abcdefghijklmnopqrstuvwxyz0123456789.") == "" &&
		!strings.ContainsFunc(s, func(r rune) bool { return !strings.ContainsRune("abcdefghijklmnopqrstuvwxyz0123456789.", r) })
}

func (m *model) burn() bool {
	switch {
	case m.fuse == 0:
		m.down = true
		return false
	case m.fuse > 0:
		m.fuse--
	}
	return true
}

func (m *model) append(name string, b []byte) api.Errno {
	i := m.at(name)
	had := 0
	if i >= 0 {
		had = len(m.files[i].cells)
	}
	switch {
	case m.down:
		return api.ErrLost
	case !modelName(name):
		return api.ErrForm
	case i < 0 && len(m.files) == 64:
		return api.ErrFull
	case had+len(b) > 1048576:
		return api.ErrLong
	case !m.burn():
		return api.ErrLost
	}
	if i < 0 {
		i = len(m.files)
		m.files = append(m.files, modelFile{name: name})
	}
	for _, x := range b {
		m.files[i].cells = append(m.files[i].cells, cell{b: x})
	}
	return api.OK
}

func (m *model) sync(name string) api.Errno {
	i := m.at(name)
	switch {
	case m.down:
		return api.ErrLost
	case i < 0:
		return api.ErrNone
	case !m.burn():
		return api.ErrLost
	}
	for j := range m.files[i].cells {
		m.files[i].cells[j].synced = true
	}
	return api.OK
}

func (m *model) rename(from, to string) api.Errno {
	i := m.at(from)
	switch {
	case m.down:
		return api.ErrLost
	case i < 0:
		return api.ErrNone
	case !modelName(to):
		return api.ErrForm
	case !m.burn():
		return api.ErrLost
	case from == to:
		return api.OK
	}
	m.files[i].name = "?"
	if j := m.at(to); j >= 0 {
		m.files = slices.Delete(m.files, j, j+1)
	}
	m.files[m.at("?")].name = to
	return api.OK
}

func (m *model) remove(name string) api.Errno {
	i := m.at(name)
	switch {
	case m.down:
		return api.ErrLost
	case i < 0:
		return api.ErrNone
	case !m.burn():
		return api.ErrLost
	}
	m.files = slices.Delete(m.files, i, i+1)
	return api.OK
}

func (m *model) truncate(name string, n int) api.Errno {
	i := m.at(name)
	switch {
	case m.down:
		return api.ErrLost
	case i < 0:
		return api.ErrNone
	case n < 0 || n > len(m.files[i].cells):
		return api.ErrRange
	case !m.burn():
		return api.ErrLost
	}
	m.files[i].cells = slices.Clone(m.files[i].cells[:n])
	return api.OK
}

func (m *model) restart(choices []byte) {
	slices.SortFunc(m.files, func(a, b modelFile) int { return strings.Compare(a.name, b.name) })
	for i := range m.files {
		var firm, loose []cell
		for _, c := range m.files[i].cells {
			if c.synced {
				firm = append(firm, c)
			} else {
				loose = append(loose, cell{c.b, true})
			}
		}
		if len(loose) > 0 {
			choice := 0
			if len(choices) > 0 {
				choice, choices = int(choices[0]), choices[1:]
			}
			loose = loose[:choice%(len(loose)+1)]
			if choice > 127 && len(loose) > 0 {
				loose[len(loose)-1].b = 255 - loose[len(loose)-1].b
			}
		}
		m.files[i].cells = append(firm, loose...)
	}
	m.down, m.fuse = false, -1
}

func (m *model) setFuse(n int) { m.fuse = max(n, -1) }

func (m *model) read(name string) ([]byte, api.Errno) {
	if m.down {
		return nil, api.ErrLost
	}
	i := m.at(name)
	if i < 0 {
		return nil, api.ErrNone
	}
	var b []byte
	for _, c := range m.files[i].cells {
		b = append(b, c.b)
	}
	return b, api.OK
}

func (m *model) list() []string {
	var l []string
	for _, f := range m.files {
		if !m.down {
			l = append(l, f.name)
		}
	}
	slices.Sort(l)
	return l
}

// agree holds all that a disk tells against the model.
func agree(t *testing.T, d *Disk, m *model, told string) {
	t.Helper()
	if d.Down() != m.down {
		t.Fatalf("%s: Down = %v", told, d.Down())
	}
	if got, want := d.List(), m.list(); !slices.Equal(got, want) {
		t.Fatalf("%s: List = %q, want %q", told, got, want)
	}
	for _, name := range append([]string{"a", "none", ""}, m.list()...) {
		got, e := d.Read(name)
		want, e1 := m.read(name)
		if e != e1 || !bytes.Equal(got, want) {
			t.Fatalf("%s: Read(%q) = %v, %d, want %v, %d", told, name, got, e, want, e1)
		}
	}
}

// step is one call on both, and what each answered.
type step struct {
	told string
	do   func(d *Disk, m *model) (api.Errno, api.Errno)
}

func appendStep(name string, b []byte) step {
	return step{"Append " + name, func(d *Disk, m *model) (api.Errno, api.Errno) { return d.Append(name, b), m.append(name, b) }}
}

func syncStep(name string) step {
	return step{"Sync " + name, func(d *Disk, m *model) (api.Errno, api.Errno) { return d.Sync(name), m.sync(name) }}
}

func renameStep(from, to string) step {
	return step{"Rename " + from + " " + to, func(d *Disk, m *model) (api.Errno, api.Errno) { return d.Rename(from, to), m.rename(from, to) }}
}

func removeStep(name string) step {
	return step{"Remove " + name, func(d *Disk, m *model) (api.Errno, api.Errno) { return d.Remove(name), m.remove(name) }}
}

func truncateStep(name string, n int) step {
	return step{"Truncate " + name, func(d *Disk, m *model) (api.Errno, api.Errno) { return d.Truncate(name, n), m.truncate(name, n) }}
}

func fuseStep(n int) step {
	return step{"SetFuse", func(d *Disk, m *model) (api.Errno, api.Errno) { d.SetFuse(n); m.setFuse(n); return 0, 0 }}
}

func restartStep(choices ...byte) step {
	return step{"Restart", func(d *Disk, m *model) (api.Errno, api.Errno) { d.Restart(choices); m.restart(choices); return 0, 0 }}
}

func follow(t *testing.T, d *Disk, m *model, told string, s step) string {
	t.Helper()
	told += "; " + s.told
	if got, want := s.do(d, m); got != want {
		t.Fatalf("%s: %d, want %d", told, got, want)
	}
	agree(t, d, m, told)
	return told
}

// P5.1 to P5.4: every sequence of four of these calls is as the model has it, and so is what a crash leaves of it.
func TestAllShortSequences(t *testing.T) {
	steps := []step{
		appendStep("a", []byte("xy")), appendStep("b", []byte("z")), appendStep("a", nil), appendStep("A", nil),
		syncStep("a"), syncStep("b"),
		renameStep("a", "b"), renameStep("b", "a"), renameStep("a", "a"), renameStep("b", ""),
		removeStep("a"), truncateStep("a", 0), truncateStep("a", 1), truncateStep("b", 1), truncateStep("a", 3),
		fuseStep(0), fuseStep(1), fuseStep(-1), restartStep(), restartStep(1, 130),
	}
	const length = 4
	all := 1
	for range length {
		all *= len(steps)
	}
	for n := range all {
		d, m, told := New(), &model{fuse: -1}, ""
		for i, rest := 0, n; i < length; i, rest = i+1, rest/len(steps) {
			s := steps[rest%len(steps)]
			told += "; " + s.told
			if got, want := s.do(d, m); got != want {
				t.Fatalf("%s: %d, want %d", told, got, want)
			}
		}
		agree(t, d, m, told)
		choices := []byte{byte(n), byte(n >> 4)}
		d.Restart(choices)
		m.restart(choices)
		agree(t, d, m, told+"; Restart")
	}
}

// P5.1 to P5.4: long sequences of calls by chance, with many files, are as the model has them at each step.
func TestLongSequences(t *testing.T) {
	r := rand.New(rand.NewPCG(5, 5))
	names := []string{"a", "b", "a.", "a0", "log.1", "z9", ".", strings.Repeat("q", 32), strings.Repeat("q", 33), "", "B", "a b", "é", "none"}
	for i := range 80 {
		names = append(names, "f"+strings.Repeat("x", i%20)+string(rune('a'+i/20)))
	}
	bytesOf := func() []byte {
		b := make([]byte, r.IntN(9)*r.IntN(50))
		for i := range b {
			b[i] = byte(r.Uint32())
		}
		return b
	}
	for range 60 {
		some := names[:3+r.IntN(len(names)-2)]
		name := func() string { return some[r.IntN(len(some))] }
		d, m, told := New(), &model{fuse: -1}, ""
		for range 150 {
			var s step
			switch r.IntN(16) {
			case 0, 1, 2, 3, 4, 5, 6:
				s = appendStep(name(), bytesOf())
			case 7, 8:
				s = syncStep(name())
			case 9, 10:
				s = renameStep(name(), name())
			case 11:
				s = removeStep(name())
			case 12, 13:
				s = truncateStep(name(), r.IntN(200)-2)
			case 14:
				s = fuseStep(r.IntN(60) - 20)
			case 15:
				s = restartStep(bytesOf()...)
			}
			told = follow(t, d, m, told, s)
		}
	}
}
