package code

// signs have numbers from 1 on.
var signs = [...]string{"+", "-", "*", "/", "%", "<", "<=", ">", ">=", "==", "!=", "!"}

// Sign returns the sign with a number, or the empty string if there is none.
func Sign(n int64) string {
	if n < 1 || n > int64(len(signs)) {
		return ""
	}
	return signs[n-1]
}

// Number returns the number of a sign, or 0 if s is not one.
func Number(s string) int64 {
	for i, sign := range signs {
		if s == sign {
			return int64(i) + 1
		}
	}
	return 0
}
