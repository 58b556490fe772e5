package classes

// nowhere is where a row leads by a class for which it tells no row.
const nowhere = -1

// list is so many elements, each made from its number.
func list[T any](count int, element func(int) T) []T {
	var l []T
	for i := range count {
		l = append(l, element(i))
	}
	return l
}

// next is where a table goes from a row by a class, which may be what is no row.
func next(table [][]int, row int, class uint8) int {
	if row >= len(table) || int(class) >= len(table[row]) {
		return nowhere
	}
	return max(table[row][class], nowhere)
}

// targets is where a row leads by each byte, as far as a row is there.
func targets(class [256]uint8, table [][]int, row int) [256]int {
	var to [256]int
	for b := range to {
		to[b] = next(table, row, class[b])
		if to[b] >= len(table) {
			to[b] = nowhere
		}
	}
	return to
}
