package journal

import (
	"drover/api"
	"drover/disk"
	"drover/wire"
)

// The log's file begins with a frame that tells First; behind it is a frame of each record. It comes to be under another name, and is called by its own when all of that is synced: so no more of it than records at its end are ever torn, and these are not synced.
const (
	name  = "log"
	spare = "log.new"
)

const (
	numberBytes = 8
	maxFrame    = 8 + maxRecord // its number and its check, four bytes each, and the record
)

// replace puts a file of these records in the place of the log's. The old one holds till the last operation, and from it on the new one.
func replace(d *disk.Disk, first int64, records [][]byte) api.Errno {
	if e := discard(d); e != api.OK {
		return e
	}
	if e := d.Append(spare, encode(first, records)); e != api.OK {
		return e
	}
	if e := d.Sync(spare); e != api.OK {
		return e
	}
	return d.Rename(spare, name)
}

// mend leaves the log's file the bytes that are whole, synced, out of all that it has.
func mend(d *disk.Disk, whole, all int) api.Errno {
	if e := discard(d); e != api.OK {
		return e
	}
	if whole < all {
		// What is torn goes, since what is appended behind it would not be found.
		if e := d.Truncate(name, whole); e != api.OK {
			return e
		}
	}
	return d.Sync(name)
}

// discard removes what a crash has left of a file that was to stand in the log's place.
func discard(d *disk.Disk) api.Errno {
	if e := d.Remove(spare); e != api.ErrNone {
		return e
	}
	return api.OK
}

// encode answers the bytes of the log's file.
func encode(first int64, records [][]byte) []byte {
	b, _ := wire.Frame(numberOut(first))
	for _, record := range records {
		frame, _ := wire.Frame(record)
		b = append(b, frame...)
	}
	return b
}

// decode answers what the log's file of these bytes holds, and how many of them are whole; 0, if it is no log's.
func decode(b []byte) (first int64, records [][]byte, whole int) {
	head, whole := open(b)
	if len(head) != numberBytes {
		return 0, nil, 0
	}
	for {
		record, size := open(b[whole:])
		if size == 0 {
			return numberIn(head), records, whole
		}
		records = append(records, record)
		whole += size
	}
}

// open answers what is in the frame that b begins with, and how many bytes the frame has; 0, if b begins with none.
func open(b []byte) ([]byte, int) {
	// All that is behind a frame is copied when it is opened: of a long file that is too much, at each record.
	b = b[:min(len(b), maxFrame)]
	inside, behind, e := wire.Open(b)
	if e != api.OK {
		return nil, 0
	}
	return inside, len(b) - len(behind)
}

// numberOut answers the bytes of n, the lowest first: always as many, so that a trimmed file is never longer than it was.
func numberOut(n int64) []byte {
	b := make([]byte, numberBytes)
	for i := range b {
		b[i] = byte(n >> (8 * i))
	}
	return b
}

func numberIn(b []byte) int64 {
	n := int64(0)
	for i, x := range b {
		n |= int64(x) << (8 * i)
	}
	return n
}
