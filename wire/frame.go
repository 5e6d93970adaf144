package wire

import (
	"bytes"
	"math"

	"drover/api"
)

const (
	numberEnd  = 4 // where the number of a frame's bytes ends, and their check begins
	checkEnd   = 8 // where that ends, and the bytes begin
	polynomial = 0xedb88320
)

// Frame answers the frame of b.
func Frame(b []byte) ([]byte, api.Errno) {
	if len(b) > api.MaxBlob {
		return nil, api.ErrLong
	}
	frame := addFour(nil, uint32(len(b)))
	frame = addFour(frame, check(frame, b))
	return append(frame, b...), api.OK
}

// Open answers the bytes in the frame that b begins with, and the bytes behind it.
func Open(b []byte) ([]byte, []byte, api.Errno) {
	if len(b) < checkEnd {
		return nil, nil, api.ErrBad
	}
	size := four(b)
	rest := b[checkEnd:]
	// The limit is asked first, of the size as it was read: a greater one might not be an int's.
	if size > api.MaxBlob || int(size) > len(rest) {
		return nil, nil, api.ErrBad
	}
	inside, behind := rest[:size], rest[size:]
	if four(b[numberEnd:]) != check(b[:numberEnd], inside) {
		return nil, nil, api.ErrBad
	}
	return bytes.Clone(inside), bytes.Clone(behind), api.OK
}

// check is the CRC-32 of the number's bytes and then the frame's.
func check(number, inside []byte) uint32 {
	return ^checkOn(checkOn(math.MaxUint32, number), inside)
}

func checkOn(sum uint32, b []byte) uint32 {
	for _, x := range b {
		sum ^= uint32(x)
		for range 8 {
			odd := sum&1 == 1
			sum >>= 1
			if odd {
				sum ^= polynomial
			}
		}
	}
	return sum
}

func addFour(b []byte, n uint32) []byte {
	return append(b, byte(n), byte(n>>8), byte(n>>16), byte(n>>24))
}

func four(b []byte) uint32 {
	return uint32(b[0]) | uint32(b[1])<<8 | uint32(b[2])<<16 | uint32(b[3])<<24
}
