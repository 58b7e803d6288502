package silo

// rest tells the rest that a number leaves when it is divided by another. One below 0 stands for -(number + 1), not for -number: that of the least int is none.
func rest(number, by int) int {
	if number < 0 {
		number = -(number + 1)
	}
	return number % by
}
