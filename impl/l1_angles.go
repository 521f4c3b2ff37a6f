package impl

// Unit is the value that stands for 1 in sines and cosines.
const Unit = 4096

const (
	quarterTurn = 90
	halfTurn    = 180
	fullTurn    = 360
)

// maxRoot is the root of the greatest number that SquareRoot accepts.
const maxRoot = 1000000

// degrees is a direction or an angle. Its methods reduce every operand to
// 0..359 before they add or subtract, so that no int overflows.
type degrees int

// sines covers 0 to 90 degrees only, because the other three quarters of the
// circle mirror this one.
var sines = [quarterTurn + 1]int{
	0, 71, 143, 214, 286, 357, 428, 499, 570, 641,
	711, 782, 852, 921, 991, 1060, 1129, 1198, 1266, 1334,
	1401, 1468, 1534, 1600, 1666, 1731, 1796, 1860, 1923, 1986,
	2048, 2110, 2171, 2231, 2290, 2349, 2408, 2465, 2522, 2578,
	2633, 2687, 2741, 2793, 2845, 2896, 2946, 2996, 3044, 3091,
	3138, 3183, 3228, 3271, 3314, 3355, 3396, 3435, 3474, 3511,
	3547, 3582, 3617, 3650, 3681, 3712, 3742, 3770, 3798, 3824,
	3849, 3873, 3896, 3917, 3937, 3956, 3974, 3991, 4006, 4021,
	4034, 4046, 4056, 4065, 4074, 4080, 4086, 4090, 4094, 4095,
	4096,
}

func (d degrees) reduced() degrees {
	r := d % fullTurn
	if r < 0 {
		r += fullTurn
	}
	return r
}

func (d degrees) plus(turn degrees) degrees {
	return (d.reduced() + turn.reduced()).reduced()
}

func (d degrees) minus(turn degrees) degrees {
	return (d.reduced() - turn.reduced()).reduced()
}

func (d degrees) sine() int {
	r := d.reduced()
	switch {
	case r <= quarterTurn:
		return sines[r]
	case r <= halfTurn:
		return sines[halfTurn-r]
	case r <= halfTurn+quarterTurn:
		return -sines[r-halfTurn]
	default:
		return -sines[fullTurn-r]
	}
}

// leftTo is the turn, counterclockwise only, from d to b.
func (d degrees) leftTo(b degrees) degrees {
	return b.minus(d)
}

func (d degrees) angleTo(b degrees) degrees {
	return min(d.leftTo(b), b.leftTo(d))
}

func (d degrees) turnedToward(b degrees, step degrees) degrees {
	if d.angleTo(b) <= step {
		return b.reduced()
	}
	if d.leftTo(b) <= halfTurn {
		return d.plus(step)
	}
	return d.minus(step)
}

// Degrees returns the number in 0..359 that differs from d by a multiple of 360.
func Degrees(d int) int {
	return int(degrees(d).reduced())
}

// Sine returns the nearest whole number to Unit times the sine of d degrees, for any d.
func Sine(d int) int {
	return degrees(d).sine()
}

// Cosine returns the nearest whole number to Unit times the cosine of d degrees, for any d.
func Cosine(d int) int {
	return degrees(d).plus(quarterTurn).sine()
}

// SquareRoot returns the largest number whose square is at most n; 0 if n is negative or greater than 10^12.
func SquareRoot(n int) int {
	if n < 0 || n > maxRoot*maxRoot {
		return 0
	}
	low, high := 0, maxRoot
	for low < high {
		middle := (low + high + 1) / 2
		if middle*middle <= n {
			low = middle
		} else {
			high = middle - 1
		}
	}
	return low
}

// AngleBetween returns the smallest number of degrees, in 0..180, by which one direction must be turned to get the other one.
func AngleBetween(a int, b int) int {
	return int(degrees(a).angleTo(degrees(b)))
}

// TurnToward returns the direction in 0..359 after a turn from direction a towards direction b by at most step degrees, step in 0..180, along the smaller angle, and in the direction of increasing degrees if both are equal: b if it is not farther than step. It returns -1 if step is out of range.
func TurnToward(a int, b int, step int) int {
	if step < 0 || step > halfTurn {
		return -1
	}
	return int(degrees(a).turnedToward(degrees(b), degrees(step)))
}
