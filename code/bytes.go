package code

import "metronome/api"

// mark is what the bytes of all code begin with.
const mark = "MTR1"

// maxBytes is how many bytes Parse looks at.
const maxBytes = 4000000

const (
	digitBits = 7                    // bits of a number in one byte
	more      = byte(1 << digitBits) // is added to each byte but a number's last
)

func bytesOf(c api.Code) []byte {
	b := []byte(mark)
	b = appendNumbers(b, len(c.Kinds), c.Ins, c.Outs, c.Cells, c.Stack)
	b = appendNumbers(b, c.Kinds...)
	b = appendNumbers(b, c.Init...)
	b = appendNumbers(b, len(c.Body))
	for _, in := range c.Body {
		b = appendNumbers(b, in.Op, in.N, in.K)
	}
	return b
}

func appendNumbers(b []byte, numbers ...int) []byte {
	for _, n := range numbers {
		z := zigzag(n)
		for z >= uint64(more) {
			b = append(b, byte(z)|more)
			z >>= digitBits
		}
		b = append(b, byte(z))
	}
	return b
}

// zigzag brings numbers near 0 to small ones: 2n, of a negative n -2n - 1.
func zigzag(n int) uint64 { return uint64(n)<<1 ^ uint64(int64(n)>>63) }

func unzigzag(z uint64) int { return int(int64(z>>1) ^ -int64(z&1)) }
