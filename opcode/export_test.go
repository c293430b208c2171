package opcode

// The tables, for the tests alone.
var (
	Table8080 = &table8080
	Table8085 = &table8085
)
