package disk

const (
	maxNameBytes = 32
	maxFileBytes = 1 << 20
	torn         = 128 // the least choice that spoils the last byte that is kept
)

// file is a file's bytes, of which the first synced ones outlive a crash.
type file struct {
	bytes  []byte
	synced int
}

// formed tells whether name may be a file's.
func formed(name string) bool {
	if len(name) < 1 || len(name) > maxNameBytes {
		return false
	}
	for i := range len(name) {
		c := name[i]
		if !('a' <= c && c <= 'z' || '0' <= c && c <= '9' || c == '.') {
			return false
		}
	}
	return true
}

// room answers how many bytes more the file may have; a nil one is a file that isn't there yet.
func (f *file) room() int {
	if f == nil {
		return maxFileBytes
	}
	return maxFileBytes - len(f.bytes)
}

func (f *file) unsynced() int {
	return len(f.bytes) - f.synced
}

func (f *file) cut(n int) {
	f.bytes = f.bytes[:n]
	f.synced = min(f.synced, n)
}

// crash keeps of the bytes that aren't synced as many as the choice says, with the last of them torn if it says so. All that is left is synced.
func (f *file) crash(choice byte) {
	kept := int(choice) % (f.unsynced() + 1)
	f.cut(f.synced + kept)
	if choice >= torn && kept > 0 {
		f.bytes[len(f.bytes)-1] ^= 0xff
	}
	f.synced = len(f.bytes)
}

// next answers the first of the choices and those behind it; 0, when they are used up.
func next(choices []byte) (byte, []byte) {
	if len(choices) == 0 {
		return 0, nil
	}
	return choices[0], choices[1:]
}
