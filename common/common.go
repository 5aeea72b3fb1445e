// Package common has small functions that several layers need.
package common

import "seismonet/api"

// Within reports whether a number is from low to high.
func Within(n, low, high int) bool {
	return n >= low && n <= high
}

// Divisor returns the greatest common divisor of two numbers that are not negative.
func Divisor(a, b int) int {
	for b != 0 {
		a, b = b, a%b
	}
	return a
}

// IsPerson reports whether a text is the name of a person.
func IsPerson(by string) bool {
	if !Within(len(by), 1, api.MaxBy) {
		return false
	}
	for i := range len(by) {
		if by[i] < 'a' || by[i] > 'z' {
			return false
		}
	}
	return true
}
