package plan

import (
	"slices"
	"strings"

	"mill/api"
)

// Pool: how many of its tasks may run at once.
type Pool struct {
	Name  string
	Depth int
}

// Task: what is made out of what, and how. Pool is empty where the line names none: no name is.
type Task struct {
	Outputs, Inputs []string
	Action          string
	Cost, Jobs      int
	Pool            string
}

// saysNothing tells whether a line is there for its reader alone.
func saysNothing(line string) bool {
	return line == "" || line[0] == '#'
}

// splitWords cuts a line at every single blank. Two blanks in a row, or one at an end, leave an empty word: it is no name, digit or sign, so whoever reads the words turns it down.
func splitWords(line string) []string {
	return strings.Split(line, " ")
}

// readPool reads the words behind `pool`.
func readPool(words []string) (Pool, bool) {
	if len(words) != 2 || !IsName(words[0]) {
		return Pool{}, false
	}
	depth, ok := readDigit(words[1])
	return Pool{Name: words[0], Depth: depth}, ok
}

// readTask reads the words behind `task`.
func readTask(words []string) (Task, bool) {
	equals := slices.Index(words, "=")
	if equals < 0 {
		return Task{}, false
	}
	outputs, rest := words[:equals], words[equals+1:]
	task := Task{}
	if bar := slices.Index(rest, "|"); bar >= 0 {
		if !task.readOptions(rest[bar+1:]) {
			return Task{}, false
		}
		rest = rest[:bar]
	}
	if !areNames(outputs) || !areNames(rest) {
		return Task{}, false
	}
	task.Outputs, task.Action, task.Inputs = outputs, rest[0], rest[1:]
	task.fillDefaults()
	return task, true
}

// readOptions reads the words behind `|`: pairs, at least one of them.
func (t *Task) readOptions(words []string) bool {
	if len(words) == 0 || len(words)%2 != 0 {
		return false
	}
	for i := 0; i < len(words); i += 2 {
		if !t.readOption(words[i], words[i+1]) {
			return false
		}
	}
	return true
}

// readOption reads one pair. What is not nought any more was named already.
func (t *Task) readOption(key, value string) bool {
	switch key {
	case "cost":
		return readOnce(&t.Cost, value)
	case "jobs":
		return readOnce(&t.Jobs, value)
	case "pool":
		if t.Pool != "" || !IsName(value) {
			return false
		}
		t.Pool = value
		return true
	}
	return false
}

// readOnce reads a digit into a place where none has been read yet.
func readOnce(place *int, word string) bool {
	digit, ok := readDigit(word)
	if !ok || *place != 0 {
		return false
	}
	*place = digit
	return true
}

// fillDefaults sets what the line did not name.
func (t *Task) fillDefaults() {
	t.Cost = max(t.Cost, 1)
	t.Jobs = max(t.Jobs, 1)
}

// readDigit reads one digit, 1 to 9.
func readDigit(word string) (int, bool) {
	if len(word) != 1 || word[0] < '1' || word[0] > '9' {
		return 0, false
	}
	return int(word[0] - '0'), true
}

// areNames tells whether there is at least one word, and each is a name.
func areNames(words []string) bool {
	for _, word := range words {
		if !IsName(word) {
			return false
		}
	}
	return len(words) > 0
}

// IsName tells whether a text is a name.
func IsName(text string) bool {
	if len(text) < 1 || len(text) > api.MaxName {
		return false
	}
	for i := range len(text) {
		if !isNameByte(text[i]) {
			return false
		}
	}
	return true
}

func isNameByte(c byte) bool {
	return 'a' <= c && c <= 'z' || '0' <= c && c <= '9' || c == '.' || c == '_'
}
