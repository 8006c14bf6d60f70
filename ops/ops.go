// Package ops names the operations of the virtual machine: package gen writes them and package vm
// executes them. An operand is a word on the operand stack of the top frame.
package ops

// The operations. A and B are the operands of the instruction.
const (
	Mark      = iota // a stop, of node A
	Enter            // pushes the frame of the root
	Number           // pushes the number A
	Slot             // pushes slot A
	Caught           // pushes captured variable A
	Self             // pushes the function of the frame
	Store            // takes an operand into slot A
	Function         // takes B operands, and pushes the function of piece A that captures them
	Construct        // takes B operands, and pushes a constructor with the tag A
	Call             // takes a function and an argument, and calls it for node A
	Return           // takes the result, pops the frame, and pushes the result
	Jump             // goes on at A
	Unless           // takes a boolean, and goes on at A if it is false
	Drop             // takes an operand
	Copy             // pushes the last operand again
	Field            // takes an object, and pushes its word A
	IfNot            // takes a word, and goes on at A unless it is the number B
	IfTag            // takes a word, and goes on at A unless it is a constructor with the tag B
	Cell             // takes the contents, and pushes a new cell
	Content          // takes a cell, and pushes its contents
	Assign           // takes a cell and its new contents, and pushes unit
	Print            // takes a number, and pushes unit
	Read             // pushes the next number of the input
	Raise            // takes a number, and goes on in the innermost handler
	Try              // begins a handler at A
	Untry            // ends the innermost handler
	Add
	Subtract
	Multiply
	Less
	Equal
	Stuck // no pattern has matched
	End   // takes the value of the program
)
