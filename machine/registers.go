package machine

// registers are PC and the numbered ones.
type registers struct {
	pc     uint32
	values [32]uint32
}

func newRegisters(pc uint32, values [32]uint32) registers {
	values[0] = 0
	return registers{pc: pc, values: values}
}

func (r *registers) register(n int) uint32 {
	return r.values[n]
}

// setRegister leaves register 0 as it is: 0.
func (r *registers) setRegister(n int, value uint32) {
	if n != 0 {
		r.values[n] = value
	}
}
