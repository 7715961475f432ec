// Package sum tells the sum by which a frame shows that its text is whole.
package sum

// modulus is the greatest prime below 2^16.
const modulus = 65521

// Of tells the sum (Adler-32) of a text.
func Of(text string) uint32 {
	a, b := uint32(1), uint32(0)
	for i := range len(text) { // by bytes: a range over the text itself would go by runes
		a = (a + uint32(text[i])) % modulus
		b = (b + a) % modulus
	}
	return b<<16 | a
}
