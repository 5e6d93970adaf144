package wire

import (
	"bytes"
	"encoding/binary"
	"hash/crc32"
	"math"
	"slices"
	"testing"

	"drover/api"
)

// frameOf is the frame of b by the library's check, however many bytes there are.
func frameOf(b []byte) []byte {
	return frameSaying(uint32(len(b)), b)
}

// frameSaying is a frame that says a number of bytes which need not be b's.
func frameSaying(n uint32, b []byte) []byte {
	f := binary.LittleEndian.AppendUint32(nil, n)
	f = binary.LittleEndian.AppendUint32(f, crc32.ChecksumIEEE(append(slices.Clone(f), b...)))
	return append(f, b...)
}

// some are n bytes of all kinds.
func some(n int) []byte {
	b := make([]byte, n)
	for i := range b {
		b[i] = byte(i*i*7 + i>>8 + n)
	}
	return b
}

func opened(t *testing.T, f, inside, behind []byte) {
	t.Helper()
	in, rest, err := Open(f)
	if err != api.OK || !bytes.Equal(in, inside) || !bytes.Equal(rest, behind) {
		t.Errorf("Open of %d bytes = %v, %v, %d; want %v, %v", len(f), in, rest, err, inside, behind)
	}
}

func shut(t *testing.T, f []byte) {
	t.Helper()
	in, rest, err := Open(f)
	if len(in) != 0 || len(rest) != 0 || err != api.ErrBad {
		t.Errorf("Open of %d bytes that begin with %v = %v, %v, %d; want ErrBad", len(f), f[:min(len(f), 12)], in, rest, err)
	}
}

// P4.3: frames byte by byte.
func TestFrameBytes(t *testing.T) {
	for text, want := range map[string][]byte{
		"":          {0, 0, 0, 0, 28, 223, 68, 33},
		"\x00":      {1, 0, 0, 0, 173, 222, 66, 251, 0},
		"123456789": {9, 0, 0, 0, 226, 97, 28, 165, 49, 50, 51, 52, 53, 54, 55, 56, 57},
	} {
		if f, err := Frame([]byte(text)); err != api.OK || !bytes.Equal(f, want) {
			t.Errorf("Frame(%q) = %v, %d; want %v", text, f, err, want)
		}
	}
	// What CRC-32 is known by.
	if got := ^checkOn(math.MaxUint32, []byte("123456789")); got != 0xcbf43926 {
		t.Errorf("the check is %x", got)
	}
}

// P4.3, P4.4: frames of all lengths; nothing but them is at most MaxBlob.
func TestFrameLengths(t *testing.T) {
	for _, n := range []int{0, 1, 2, 3, 4, 7, 8, 9, 127, 128, 255, 256, 257, 1000, 4094, 4095, 4096} {
		for _, b := range [][]byte{some(n), make([]byte, n), bytes.Repeat([]byte{255}, n)} {
			f, err := Frame(b)
			if err != api.OK || !bytes.Equal(f, frameOf(b)) {
				t.Errorf("Frame of %d bytes: %d", n, err)
			}
			for _, behind := range [][]byte{nil, {0}, {255}, some(5000), frameOf(nil), frameOf(b)} {
				opened(t, slices.Concat(f, behind), b, behind)
			}
		}
	}
	if f, err := Frame(nil); err != api.OK || !bytes.Equal(f, frameOf(nil)) {
		t.Errorf("Frame(nil) = %v, %d", f, err)
	}
	for _, n := range []int{4097, 4098, 8192, 1 << 16, 1<<16 + 1, 1 << 20} {
		if f, err := Frame(some(n)); len(f) != 0 || err != api.ErrLong {
			t.Errorf("Frame of %d bytes = %v, %d; want ErrLong", n, f, err)
		}
		shut(t, frameOf(some(n)))
		shut(t, append(frameOf(some(n)), some(100)...))
	}
}

// P4.3: frames that end too early.
func TestFrameTooShort(t *testing.T) {
	shut(t, nil)
	shut(t, []byte{})
	for _, n := range []int{0, 1, 5, 300} {
		f, _ := Frame(some(n))
		for cut := range f {
			shut(t, f[:cut])
		}
	}
	f, _ := Frame(some(4096))
	shut(t, f[:len(f)-1])
}

// P4.3: frames that say another number of bytes, though with a check of it.
func TestFrameNumbers(t *testing.T) {
	for _, n := range []uint32{10, 11, 4096, 4097, 1 << 16, 1<<31 - 1, 1 << 31, 1<<31 + 9, 1<<32 - 8, 1<<32 - 1} {
		shut(t, frameSaying(n, some(9)))
		shut(t, frameSaying(n, nil))
	}
	shut(t, frameSaying(4097, some(5000)))
	shut(t, frameSaying(8, some(9)))
	shut(t, frameSaying(0, some(9)))
	// The check is of the number too.
	bare := binary.LittleEndian.AppendUint32([]byte{9, 0, 0, 0}, crc32.ChecksumIEEE(some(9)))
	shut(t, append(bare, some(9)...))
}

// P4.4: each byte turned in each way.
func TestFrameTurned(t *testing.T) {
	for _, n := range []int{0, 1, 9, 60} {
		for _, behind := range [][]byte{nil, some(300)} {
			f := slices.Concat(frameOf(some(n)), behind)
			for i := range 8 + n {
				for turn := 1; turn < 256; turn++ {
					f[i] ^= byte(turn)
					shut(t, f)
					f[i] ^= byte(turn)
				}
			}
			opened(t, f, some(n), behind)
			if len(behind) > 0 {
				f[len(f)-1] ^= 1
				opened(t, f, some(n), f[8+n:])
			}
		}
	}
	f := frameOf(some(4096))
	for i := range f {
		f[i] ^= 1 << (i % 8)
		shut(t, f)
		f[i] ^= 1 << (i % 8)
	}
}

// P4.3, P4.4: frames one behind another.
func TestFramesInARow(t *testing.T) {
	var row []byte
	for n := range 40 {
		f, _ := Frame(some(n))
		row = append(row, f...)
	}
	for n := range 40 {
		in, rest, err := Open(row)
		if err != api.OK || !bytes.Equal(in, some(n)) {
			t.Fatalf("the frame of %d bytes: %v, %d", n, in, err)
		}
		row = rest
	}
	shut(t, row)
}

// R5: what is handed in stays as it was, its spare room too; what is answered is new memory, and each list its own.
func TestFramesLeftAlone(t *testing.T) {
	b := spare(some(20), 77)
	was := slices.Clone(b[:cap(b)])
	f, _ := Frame(b)
	clear(f)
	if !bytes.Equal(b[:cap(b)], was) {
		t.Errorf("the bytes are %v, and were %v", b[:cap(b)], was)
	}
	for _, behind := range [][]byte{nil, some(10)} {
		for _, n := range []int{0, 20} {
			b = spare(slices.Concat(frameOf(some(n)), behind), 77)
			was = slices.Clone(b[:cap(b)])
			in, rest, _ := Open(b)
			clear(in)
			in = append(in, 1, 2, 3)
			if !bytes.Equal(rest, behind) {
				t.Errorf("the bytes behind hang on those in it: %v", rest)
			}
			clear(rest)
			_ = append(rest, 1, 2, 3)
			_ = append(in, 1)
			if !bytes.Equal(b[:cap(b)], was) {
				t.Errorf("the bytes are %v, and were %v", b[:cap(b)], was)
			}
			in, rest, _ = Open(b)
			clear(b[:cap(b)])
			if !bytes.Equal(in, some(n)) || !bytes.Equal(rest, behind) {
				t.Error("what was opened hangs on the frame")
			}
		}
	}
}
