package snap_test

import (
	"math/rand"
	"slices"
	"testing"

	"drover/api"
	"drover/disk"
	"drover/snap"
)

// A history is what P7.4 says of a checkpoint, whatever it is made of.
type history struct {
	last  checkpoint   // of the latest Save that was answered OK
	tried []checkpoint // of those that were answered ErrLost behind it
}

func begun() *history {
	return &history{last: none}
}

// saves has c saved, and tells whether the disk goes on.
func (h *history) saves(t *testing.T, told string, d *disk.Disk, c checkpoint) bool {
	t.Helper()
	switch e := c.save(d); {
	case e == api.OK && !d.Down():
		h.last, h.tried = c, nil
		h.found(t, told, d)
		return true
	case e == api.ErrLost && d.Down():
		h.tried = append(h.tried, c)
		return false
	default:
		t.Fatalf("%s: Save: %d, down %v", told, e, d.Down())
		return false
	}
}

// cleans has the disk cleaned, and tells whether it goes on.
func (h *history) cleans(t *testing.T, told string, d *disk.Disk) bool {
	t.Helper()
	switch e := snap.Clean(d); {
	case e == api.OK && !d.Down():
		h.found(t, told, d)
		files := d.List()
		if len(files) > 1 || (len(files) == 0) != (loaded(d).e == api.ErrNone) {
			t.Fatalf("%s: cleaned, there are %q", told, files)
		}
		return true
	case e == api.ErrLost && d.Down():
		return false
	default:
		t.Fatalf("%s: Clean: %d, down %v", told, e, d.Down())
		return false
	}
}

// found: the checkpoint is one that it may be; from then on it is that one.
func (h *history) found(t *testing.T, told string, d *disk.Disk) {
	t.Helper()
	got := loaded(d)
	if !got.same(h.last) && !slices.ContainsFunc(h.tried, got.same) {
		t.Fatalf("%s: the number %d, %d pieces, %d; want the number %d, %d pieces, %d, or one of %d others", told, got.number, len(got.pieces), got.e, h.last.number, len(h.last.pieces), h.last.e, len(h.tried))
	}
	h.last, h.tried = got, nil
}

// restarts brings the disk up, and again, by which nothing may change any more.
func (h *history) restarts(t *testing.T, told string, d *disk.Disk, choices []byte) {
	t.Helper()
	d.Restart(choices)
	h.found(t, told, d)
	d.Restart([]byte{255, 129, 3})
	h.found(t, told+", again", d)
}

// someChoices are of none, of 0, below 128, and of 128 or more.
var someChoices = [][]byte{nil, {0, 0}, {1, 1}, {7, 8}, {24, 3}, {25, 40}, {33, 90}, {126, 127}, {127, 127}, {128, 128}, {129, 129}, {145, 136}, {200, 150}, {254, 254}, {255, 255}}

// olds and news are checkpoints to be replaced, and in place of them.
var olds = []checkpoint{none, {}, {number: 1, pieces: []string{"old", "", "er"}}, {number: maxNumber, pieces: cut(10000, api.MaxBlob)}}
var news = []checkpoint{{}, {number: 2}, {number: 3, pieces: []string{""}}, {number: 4, pieces: []string{"new", "", "e", "r"}}, {number: 5, pieces: cut(20000, 999)}, {number: 1, pieces: []string{"old", "", "er"}}}

// P7.1, P7.4: Save with a fuse of each length up to behind its last operation, then a crash: the old checkpoint or the new one, whole; and the next one is saved as ever.
func TestSaveAtEveryFuse(t *testing.T) {
	for _, was := range olds {
		for _, is := range news {
			for _, left := range []bool{false, true} {
				for _, choices := range someChoices {
					saveAtFuses(t, was, is, left, choices)
				}
			}
		}
	}
}

func saveAtFuses(t *testing.T, was, is checkpoint, left bool, choices []byte) {
	t.Helper()
	for fuse := 0; ; fuse++ {
		d := disk.New()
		h := begun()
		if was.e == api.OK {
			h.saves(t, "old", d, was)
		}
		if left {
			stray(d, "-")
		}
		d.SetFuse(fuse)
		lasts := h.saves(t, "new", d, is)
		h.restarts(t, "behind", d, choices)
		if lasts && !h.last.same(is) {
			t.Fatal("what was answered OK is gone")
		}
		// What the crash has left stands in nobody's way.
		last := h.last
		if fuse%2 == 0 {
			h.cleans(t, "on", d)
			holds(t, "cleaned", d, last)
		}
		h.saves(t, "on", d, checkpoint{number: 77, pieces: []string{"on"}})
		h.restarts(t, "on", d, choices)
		holds(t, "on", d, checkpoint{number: 77, pieces: []string{"on"}})
		if lasts {
			return
		}
		if fuse > 50 {
			t.Fatal("it has no end")
		}
	}
}

// P7.4: each choice of what is kept of a checkpoint that isn't synced.
func TestEveryChoice(t *testing.T) {
	for _, is := range news[:4] {
		for c := range 256 {
			saveAtFuses(t, olds[2], is, false, []byte{byte(c)})
			saveAtFuses(t, none, is, false, []byte{byte(c)})
		}
	}
}

// P7.3, P7.4: Clean with a fuse of each length up to behind its last operation, beside what a crash of Save has left and beside strays: the checkpoint is as it was.
func TestCleanAtEveryFuse(t *testing.T) {
	for _, was := range olds {
		for crash := -1; crash < 5; crash++ {
			for _, left := range []bool{false, true} {
				for _, choices := range someChoices {
					cleanAtFuses(t, was, crash, left, choices)
				}
			}
		}
	}
}

func cleanAtFuses(t *testing.T, was checkpoint, crash int, left bool, choices []byte) {
	t.Helper()
	for fuse := 0; ; fuse++ {
		d := disk.New()
		h := begun()
		if was.e == api.OK {
			h.saves(t, "old", d, was)
		}
		if crash >= 0 {
			d.SetFuse(crash)
			h.saves(t, "new", d, news[3])
			h.restarts(t, "left", d, choices)
		}
		if left {
			stray(d, "-")
		}
		is := h.last
		d.SetFuse(fuse)
		lasts := h.cleans(t, "cleaned", d)
		h.restarts(t, "behind", d, choices)
		holds(t, "behind", d, is)
		h.cleans(t, "cleaned again", d)
		holds(t, "cleaned again", d, is)
		if lasts {
			return
		}
		if fuse > api.MaxFiles {
			t.Fatal("it has no end")
		}
	}
}

// P7.4: every sequence of four calls, two Saves, a Clean and a crash among them, at each fuse.
func TestEverySequence(t *testing.T) {
	for i := range 3 * 3 * 3 * 3 {
		for fuse := 0; fuse < 18; fuse++ {
			for _, choices := range someChoices {
				d := disk.New()
				h := begun()
				d.SetFuse(fuse)
				for j, k := 0, i; j < 4; j, k = j+1, k/3 {
					goesOn := true
					switch k % 3 {
					case 0:
						goesOn = h.saves(t, "run", d, checkpoint{number: int64(j), pieces: cut(j*40, 17)})
					case 1:
						goesOn = h.saves(t, "run", d, checkpoint{number: int64(j + 10)})
					case 2:
						goesOn = h.cleans(t, "run", d)
					}
					if !goesOn {
						h.restarts(t, "run", d, choices)
						// The next calls crash as well, at another operation.
						d.SetFuse((fuse + j) % 4)
					}
				}
				h.restarts(t, "end", d, choices)
			}
		}
	}
}

// P7.4: crashes at every operation of a Save of as much as may be.
func TestCrashesOfGreatOnes(t *testing.T) {
	many := make([]string, maxPieces)
	for i := range many {
		many[i] = some(32, i)
	}
	was := checkpoint{number: 1, pieces: cut(maxBytes, api.MaxBlob)}
	for i, is := range []checkpoint{{number: 2, pieces: many}, {number: 3, pieces: cut(maxBytes, 77)}} {
		saveAtFuses(t, was, is, i == 1, []byte{200})
	}
}

// P7.4: a crash is met again and again, on one disk, with calls by chance between; Saves that are refused are none.
func TestByChance(t *testing.T) {
	for seed := range 150 {
		r := rand.New(rand.NewSource(int64(seed)))
		d := disk.New()
		h := begun()
		for i := range 60 {
			d.SetFuse(r.Intn(12))
			for goesOn := true; goesOn && r.Intn(6) > 0; {
				switch r.Intn(8) {
				case 0:
					goesOn = h.cleans(t, "by chance", d)
				case 1:
					want(t, "a number below 0", snap.Save(d, -1, nil), api.ErrRange)
				case 2:
					want(t, "too long", snap.Save(d, 1, nil, make([]byte, api.MaxBlob+1)), api.ErrLong)
				case 3:
					want(t, "too many", snap.Save(d, 1, make([][]byte, maxPieces+1)...), api.ErrFull)
				default:
					pieces := cut(r.Intn(1+r.Intn(20000)), 5+r.Intn(api.MaxBlob-4))
					goesOn = h.saves(t, "by chance", d, checkpoint{number: r.Int63n(maxNumber + 1), pieces: append(pieces, make([]string, r.Intn(3))...)})
				}
				if goesOn {
					h.found(t, "by chance", d)
				}
			}
			choices := make([]byte, r.Intn(4))
			r.Read(choices)
			h.restarts(t, "by chance", d, choices)
			if i%7 == 0 {
				stray(d, "-")
			}
		}
	}
}
