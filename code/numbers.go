package code

import "strider/api"

// MaxRegister is the highest K of a register dK.
const MaxRegister = 7

// Allows says whether a number may be an operand; of jumps all may, for whether they reach is asked by Fits.
func (k Kind) Allows(number int) bool {
	switch k {
	case Quick:
		return within(number, -0x80, 0x7f)
	case AddValue, Words:
		return within(number, -0x8000, 0xffff)
	case Bytes:
		return within(number, -0x80, 0xff)
	case Space:
		return within(number, 0, api.MaxSpace)
	case Align:
		return within(number, 2, api.MaxAlign) && number&(number-1) == 0
	case Org:
		return isPlace(number)
	}
	return true
}

// Fits says whether a jump or far jump of this form reaches the target from the address.
func (o Op) Fits(form Form, address, target int) bool {
	if !isPlace(target) || isOdd(address) {
		return false
	}
	if form == Long {
		return true
	}
	if o.Kind == FarJump {
		return target <= 0x7fff
	}
	by := distance(address, target)
	if form == Short {
		return within(by, -0x80, 0x7f) && by != 0
	}
	return within(by, -0x8000, 0x7fff)
}

// distance is what a jump adds to the program counter, which stands behind its first word by then.
func distance(address, target int) int { return target - address - 2 }

// target is the way back from distance.
func target(address, by int) int { return address + 2 + by }

func isPlace(number int) bool { return within(number, 0, api.MaxPlace) && !isOdd(number) }

func isOdd(number int) bool { return number&1 != 0 }

func within(number, low, high int) bool { return low <= number && number <= high }
