// Package frame tells what stands around blocks.
package frame

import (
	"bale/api"
	"bale/sum"
)

// Ahead is how many bytes stand ahead of the blocks.
const Ahead = 2

// behind is how many bytes stand behind the blocks: the sum.
const behind = 4

// begin is how the frames that are made here begin.
const begin = "\x78\x9c"

// Around puts a frame around the blocks that tell a text.
func Around(blocks, text string) string {
	return begin + blocks + string(bytesOf(sum.Of(text)))
}

// bytesOf tells a number with its highest byte first.
func bytesOf(number uint32) []byte {
	return []byte{byte(number >> 24), byte(number >> 16), byte(number >> 8), byte(number)}
}

// Begin tells what is wrong with how a frame begins.
func Begin(data string) api.Errno {
	if len(data) < Ahead {
		return api.ErrEnd
	}
	if !isBegin(data[0], data[1]) {
		return api.ErrFrame
	}
	return api.OK
}

func isBegin(first, second byte) bool {
	both := int(first)<<8 | int(second)
	return first&15 == 8 && first>>4 <= 7 && second>>5&1 == 0 && both%31 == 0
}

// End tells what is wrong with the data behind the blocks of a frame, if they tell this text.
func End(data, text string) api.Errno {
	if len(data) < behind {
		return api.ErrEnd
	}
	if number(data[:behind]) != sum.Of(text) {
		return api.ErrSum
	}
	if len(data) > behind {
		return api.ErrFrame
	}
	return api.OK
}

// number reads a number of 32 bits whose highest byte is first.
func number(data string) uint32 {
	n := uint32(0)
	for i := range len(data) {
		n = n<<8 | uint32(data[i])
	}
	return n
}
