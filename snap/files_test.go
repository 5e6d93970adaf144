package snap_test

import (
	"slices"
	"strconv"
	"strings"
	"testing"

	"drover/api"
	"drover/disk"
	"drover/snap"
	"drover/wire"
)

// crowd puts n files of other names on a disk, each with bytes that are synced and one that isn't.
func crowd(t *testing.T, d *disk.Disk, n int) {
	t.Helper()
	for i := range n {
		other(t, d, "f"+strconv.Itoa(i))
	}
}

func other(t *testing.T, d *disk.Disk, name string) {
	t.Helper()
	d.Append(name, []byte("synced"))
	d.Sync(name)
	want(t, "another file", d.Append(name, []byte("-")), api.OK)
}

// others are the names of files that aren't this layer's; all of them have what they had, with that tail.
func others(t *testing.T, d *disk.Disk, tail string) []string {
	t.Helper()
	var found []string
	for _, name := range d.List() {
		if strings.HasPrefix(name, "snap") {
			continue
		}
		found = append(found, name)
		if b, e := d.Read(name); string(b) != "synced"+tail || e != api.OK {
			t.Errorf("%s: %q, %d", name, b, e)
		}
	}
	return found
}

func crowded(t *testing.T, d *disk.Disk, n int, tail string) {
	t.Helper()
	if found := len(others(t, d, tail)); found != n {
		t.Errorf("%d files of others, want %d", found, n)
	}
}

var one = checkpoint{number: 1, pieces: []string{"a", "", "bc"}}
var two = checkpoint{number: 2, pieces: []string{"defg", "h"}}

// P7.1: on a disk with MaxFiles files there is no room for a checkpoint, which changes nothing; with one file less there is.
func TestSaveOnAFullDisk(t *testing.T) {
	d := disk.New()
	crowd(t, d, api.MaxFiles)
	for range 2 {
		want(t, "Save", one.save(d), api.ErrFull)
		holds(t, "full", d, none)
		crowded(t, d, api.MaxFiles, "-")
		if d.Down() {
			t.Fatal("down")
		}
	}
	want(t, "Remove", d.Remove("f7"), api.OK)
	saved(t, d, one)
	want(t, "Clean", snap.Clean(d), api.OK)
	crowded(t, d, api.MaxFiles-1, "-")
	keeps(t, "room for one", d, one)
	crowded(t, d, api.MaxFiles-1, "")
}

// P7.1: on a disk with MaxFiles files, the checkpoint's among them, a Save that finds no room leaves what was there, and is done when there is some.
func TestSaveAgainOnAFullDisk(t *testing.T) {
	d := disk.New()
	saved(t, d, one)
	crowd(t, d, api.MaxFiles-1)
	before := contents(d)
	e := two.save(d)
	if e == api.OK {
		// It needs no second file.
		saved(t, d, two)
		return
	}
	want(t, "Save", e, api.ErrFull)
	if !slices.Equal(contents(d), before) {
		t.Error("it has changed files")
	}
	crowded(t, d, api.MaxFiles-1, "-")
	keeps(t, "refused", d, one)
	want(t, "Remove", d.Remove("f0"), api.OK)
	saved(t, d, two)
	keeps(t, "with room", d, two)
	crowded(t, d, api.MaxFiles-2, "")
}

// P7.1, P7.4: crashes on a disk that is full but for one file leave room for the next Save, Clean or not.
func TestCrashesOnANearlyFullDisk(t *testing.T) {
	for _, cleaned := range []bool{false, true} {
		d := disk.New()
		saved(t, d, one)
		crowd(t, d, api.MaxFiles-2)
		d.Restart(nil)
		for i := range 200 {
			d.SetFuse(i % 4)
			last, next := loaded(d), checkpoint{number: int64(i), pieces: cut(i*50, 60)}
			e := next.save(d)
			if e != api.OK && e != api.ErrLost {
				t.Fatalf("Save: %d", e)
			}
			d.Restart([]byte{byte(i * 7)})
			if e == api.OK {
				last = next
			}
			if got := loaded(d); !got.same(last) && !got.same(next) {
				t.Fatalf("Save %d: %v", i, got)
			}
			if cleaned {
				want(t, "Clean", snap.Clean(d), api.OK)
			}
			if len(d.List()) > api.MaxFiles {
				t.Fatal("too many files")
			}
			if i%5 == 4 {
				saved(t, d, two)
			}
		}
		crowded(t, d, api.MaxFiles-2, "")
	}
}

// P7.1, P7.3: files of other names stay as they are, not synced either, at whichever operation a crash comes.
func TestOthers(t *testing.T) {
	names := []string{".snap", "0snap", "a", "book", "log", "log.new", "new", "s", "sna", "sna.p", "sn.ap", "t", "xsnap.new", "z"}
	slices.Sort(names)
	for fuse := range 40 {
		d := disk.New()
		for _, name := range names {
			other(t, d, name)
		}
		d.SetFuse(fuse)
		one.save(d)
		two.save(d)
		d.Append("snap.left", nil)
		snap.Clean(d)
		if !d.Down() && !slices.Equal(others(t, d, "-"), names) {
			t.Errorf("fuse %d: %q", fuse, d.List())
		}
		d.Restart(nil)
		if !slices.Equal(others(t, d, ""), names) {
			t.Errorf("fuse %d, restarted: %q", fuse, d.List())
		}
		want(t, "Clean", snap.Clean(d), api.OK)
		saved(t, d, one)
		if !slices.Equal(others(t, d, ""), names) || len(d.List()) == len(names) {
			t.Errorf("fuse %d, saved: %q", fuse, d.List())
		}
	}
}

// P7.1: it looks at no others: what others hold is no checkpoint, be it the bytes of one.
func TestLooksAtNoOthers(t *testing.T) {
	d := disk.New()
	saved(t, d, one)
	b, _ := d.Read(d.List()[0])
	for _, name := range []string{".snap", "sna", "xsnap", "log", "0", "snp", "s.nap"} {
		other := disk.New()
		other.Append(name, b)
		holds(t, name, other, none)
		want(t, "Clean", snap.Clean(other), api.OK)
		if got, e := other.Read(name); string(got) != string(b) || e != api.OK {
			t.Errorf("%s: %q, %d", name, got, e)
		}
	}
}

// strays are names of files that a checkpoint may find beside it, this layer's by their beginning.
var strays = []string{"snap.", "snap.0", "snap.a", "snap.new", "snap.new.new", "snap.old", "snap.tmp", "snap0", "snap1", "snapa", "snapshot", "snapsnap", "snapz", "snap.1234567890123456789012345678"[:32]}

// stray puts files of those names on a disk, but the one that holds the checkpoint.
func stray(d *disk.Disk, tail string) {
	files := d.List()
	for _, name := range strays {
		if !slices.Contains(files, name) {
			d.Append(name, []byte("stray"))
			d.Sync(name)
			d.Append(name, []byte(tail))
		}
	}
}

// P7.3: Clean leaves the checkpoint as it was, and no other file of this layer's; done again it changes nothing, and does no operation.
func TestClean(t *testing.T) {
	for _, c := range []checkpoint{none, one, two, {number: maxNumber}} {
		for _, tail := range []string{"", "-"} {
			d := disk.New()
			kept := 0
			if c.e == api.OK {
				saved(t, d, c)
				kept = 1
			}
			other(t, d, "a")
			other(t, d, "t")
			stray(d, tail)
			if len(d.List()) != 2+len(strays)+kept {
				t.Fatalf("%q", d.List())
			}
			for range 3 {
				want(t, "Clean", snap.Clean(d), api.OK)
				if len(d.List()) != 2+kept {
					t.Errorf("cleaned: %q", d.List())
				}
				crowded(t, d, 2, "-")
				holds(t, "cleaned", d, c)
				d.SetFuse(0)
			}
			d.SetFuse(-1)
			keeps(t, "cleaned", d, c)
			saved(t, d, one)
		}
	}
}

// P7.1, P7.2: strays beside the checkpoint, whatever they hold, are none, and no Save takes anything of theirs.
func TestStraysAreNone(t *testing.T) {
	source := disk.New()
	saved(t, source, two)
	b, _ := source.Read(source.List()[0])
	own := source.List()[0]
	for _, name := range strays {
		if name == own {
			continue
		}
		d := disk.New()
		d.Append(name, b)
		d.Append(name, b)
		holds(t, name, d, none)
		saved(t, d, one)
		d.Append(name, b)
		holds(t, name, d, one)
		saved(t, d, checkpoint{number: 5})
		keeps(t, name, d, checkpoint{number: 5})
	}
}

// P7.3: a file that doesn't hold a checkpoint, and should, is as it was.
func TestCleanOfABadOne(t *testing.T) {
	d := disk.New()
	saved(t, d, one)
	d.Append(d.List()[0], []byte("-"))
	before := contents(d)
	stray(d, "")
	holds(t, "bad", d, checkpoint{e: api.ErrBad})
	want(t, "Clean", snap.Clean(d), api.OK)
	holds(t, "bad, cleaned", d, checkpoint{e: api.ErrBad})
	if !slices.Equal(contents(d), before) {
		t.Errorf("%q, and were %q", contents(d), before)
	}
	saved(t, d, two)
	keeps(t, "saved over it", d, two)
}

// P7.2: a file that should hold a checkpoint and has other bytes than one is bad: cut anywhere, with a byte turned, with some more.
func TestBad(t *testing.T) {
	for _, c := range []checkpoint{one, two, {}, {pieces: []string{""}}, {number: 3, pieces: []string{"", "", ""}}, {number: maxNumber, pieces: cut(100, 9)}} {
		source := disk.New()
		saved(t, source, c)
		name := source.List()[0]
		whole, _ := source.Read(name)
		for i := range whole {
			bad(t, "cut", name, whole[:i])
			bad(t, "its end", name, whole[i+1:])
			bad(t, "cut out", name, slices.Delete(slices.Clone(whole), i, i+1))
			for bit := range 8 {
				turned := slices.Clone(whole)
				turned[i] ^= 1 << bit
				bad(t, "turned", name, turned)
			}
		}
		for _, more := range []string{"\x00", "x", string(make([]byte, 7)), string(make([]byte, 8)), string(make([]byte, 5000)), string(whole)} {
			bad(t, "behind it", name, append(slices.Clone(whole), more...))
			bad(t, "ahead of it", name, append([]byte(more), whole[:len(whole)-1]...))
		}
		empty, _ := wire.Frame(nil)
		bad(t, "a frame more", name, append(slices.Clone(whole), empty...))
	}
	for _, b := range [][]byte{nil, make([]byte, 1), make([]byte, 24), make([]byte, 1<<20), []byte(some(1<<20, 1))} {
		source := disk.New()
		saved(t, source, one)
		bad(t, "foreign", source.List()[0], b)
	}
}

// bad: a file of these bytes, in the checkpoint's place, is none; what is saved over it is.
func bad(t *testing.T, told, name string, b []byte) {
	t.Helper()
	d := disk.New()
	want(t, told, d.Append(name, b), api.OK)
	d.Sync(name)
	holds(t, told, d, checkpoint{e: api.ErrBad})
	saved(t, d, two)
}

// file are the bytes of the file that Save makes, whether or not they are a checkpoint's.
func file(number, count uint64, pieces ...string) []byte {
	var head []byte
	for _, n := range []uint64{number, count} {
		for i := range 8 {
			head = append(head, byte(n>>(8*i)))
		}
	}
	return frames(append([]string{string(head)}, pieces...)...)
}

func frames(inside ...string) []byte {
	var b []byte
	for _, s := range inside {
		frame, _ := wire.Frame([]byte(s))
		b = append(b, frame...)
	}
	return b
}

// P7.2: frames that are whole are bad all the same, if no checkpoint has such a number, or so many pieces, or so many bytes in all.
func TestBadFrames(t *testing.T) {
	d := disk.New()
	saved(t, d, one)
	name := d.List()[0]
	if b, _ := d.Read(name); string(b) != string(file(1, 3, one.pieces...)) {
		t.Fatalf("the file is made otherwise: %q", b)
	}
	for _, number := range []uint64{maxNumber + 1, 1<<63 - 1, 1 << 63, 1<<64 - 1} {
		bad(t, "number", name, file(number, 1, "a"))
		bad(t, "number, no pieces", name, file(number, 0))
	}
	for _, count := range []uint64{0, 1, 3, 255, 258, maxPieces, 1<<32 + 2, 1 << 62, 1 << 63, 1<<63 + 2, 1<<64 - 2, 1<<64 - 1} {
		bad(t, "count", name, file(1, count, "a", "b"))
		bad(t, "count, no pieces", name, file(1, max(1, count)))
	}
	heavy := cut(maxBytes, api.MaxBlob)
	bad(t, "bytes", name, file(1, uint64(len(heavy)+1), append(slices.Clone(heavy), "1")...))
	many := make([]string, maxPieces+1)
	bad(t, "pieces", name, file(1, maxPieces+1, many...))
	bad(t, "no head", name, frames("a", "b"))
	bad(t, "an empty head", name, frames("", "b"))
	head := string(file(1, 0)[8:])
	bad(t, "a short head", name, frames(head[:15]))
	bad(t, "a long head", name, frames(head+"\x00"))
	bad(t, "half a head", name, frames(head[:8]))
	bad(t, "a piece too long", name, append(file(1, 1), append([]byte{1, 16, 0, 0, 0, 0, 0, 0}, make([]byte, 4097)...)...))
	bad(t, "a piece of 2^32 - 1", name, append(file(1, 1), 255, 255, 255, 255, 0, 0, 0, 0, 1))
	for _, x := range []checkpoint{{number: maxNumber, pieces: heavy}, {pieces: many[1:]}, {}} {
		d := disk.New()
		d.Append(name, file(uint64(x.number), uint64(len(x.pieces)), x.pieces...))
		holds(t, "whole", d, x)
	}
}
