package plan

// Weights has for each task how much work hangs on it: its cost, and the greatest weight of those that wait for it (P5).
func (p Plan) Weights() []int {
	weights := make([]int, len(p.Tasks))
	order := inOrder(p.Waits)
	for i := len(order) - 1; i >= 0; i-- {
		// Whoever waits for this task stands behind it in the order, and has left its weight here.
		number := order[i]
		weights[number] += p.Tasks[number].Cost
		for _, awaited := range p.Waits[number] {
			weights[awaited] = max(weights[awaited], weights[number])
		}
	}
	return weights
}

// hasRing tells whether some tasks wait for one another, or one for itself: these find no place in an order.
func hasRing(waits [][]int) bool {
	return len(inOrder(waits)) < len(waits)
}

// inOrder lists the tasks so that none comes ahead of one that it waits for. Those in a ring, and all that wait for these, are left out.
func inOrder(waits [][]int) []int {
	order := make([]int, 0, len(waits))
	placed := make([]bool, len(waits))
	for grew := true; grew; {
		grew = false
		for number := range waits {
			if !placed[number] && allPlaced(waits[number], placed) {
				placed[number] = true
				order = append(order, number)
				grew = true
			}
		}
	}
	return order
}

func allPlaced(numbers []int, placed []bool) bool {
	for _, number := range numbers {
		if !placed[number] {
			return false
		}
	}
	return true
}
