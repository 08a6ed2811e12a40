// Package bytecode writes policies as bytes, checks bytes that it is handed, and makes functions of them that work out the value.
//
// The code of a part is a byte that tells what it is, what belongs to it (places, numbers, names), and then the code of its parts, in the order of the text. So whoever reads it meets probes and metrics as they stand in the text.
package bytecode

// The bytes that tell what a part is; a pair's is its sign.
const (
	opNumber  = 'n'
	opMinus   = '~'
	opDivide  = '/'
	opChoice  = '?'
	opMeasure = 'm'
	opProbe   = 'p'
)

const numberBytes = 4
