package frame

const (
	ones    = 1<<32 - 1 // with a register of 0, zeros ahead of a text would not change its sum
	divisor = 3988292384
)

// table has, of each byte, what becomes of a register that is that byte alone: so a byte of a text costs one look, not eight steps.
type table [256]uint32

func newTable() table {
	var t table
	for i := range t {
		t[i] = divided(uint32(i))
	}
	return t
}

// divided is the register behind the eight steps that follow on a byte.
func divided(register uint32) uint32 {
	for range 8 {
		if register&1 == 1 {
			register = register>>1 ^ divisor
		} else {
			register >>= 1
		}
	}
	return register
}

// Sum is the check sum of bytes.
func Sum(s string) int {
	sums := newTable()
	return sums.sum(s)
}

func (t *table) sum(s string) int {
	register := uint32(ones)
	for i := range len(s) {
		register = register>>8 ^ t[byte(register)^s[i]]
	}
	return int(register ^ ones)
}
