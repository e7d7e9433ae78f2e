// Package prints tells rows of lines apart by fingerprints.
package prints

// Print is the fingerprint of a row of lines: an array, so that == tells at once
// whether two rows may be the same. Rows that differ hardly ever have the same one, but
// they can: that they are the same, only the lines themselves can tell.
type Print [2]uint64

// The two numbers of a fingerprint are made of the same bytes in two ways, so that
// bytes that the one takes for the same are told apart by the other.
const (
	start        = 0xcbf29ce484222325
	firstFactor  = 0x00000100000001b3
	secondFactor = 0x9e3779b97f4a7c15
)

// Of tells the fingerprint of a row of lines.
func Of(row []string) Print {
	p := Print{start, start}
	for _, line := range row {
		for i := range len(line) {
			p.add(line[i])
		}
		// No line has a newline in it: with one behind each, it shows where they end.
		p.add('\n')
	}
	return p
}

func (p *Print) add(b byte) {
	p[0] = (p[0] ^ uint64(b)) * firstFactor
	p[1] = (p[1] + uint64(b)) * secondFactor
}
