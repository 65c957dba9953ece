// Package work makes what the tasks of a build make, on several workers at once.
package work

import (
	"slices"
	"strconv"
	"strings"

	"mill/api"
	"mill/digest"
)

// Job: all that something is made of: an action, and the data of its inputs.
type Job struct {
	Action string
	Inputs []string
}

// Answer: what was made, in the order of the outputs. What fails makes nothing.
type Answer struct {
	Made   []string
	Failed bool
}

// Fingerprint tells jobs apart (P9). Each input's length stands ahead of it, so that no two lists of inputs have the same text.
func (j Job) Fingerprint() api.Digest {
	var text strings.Builder
	text.WriteString(j.Action)
	text.WriteByte('\n')
	for _, data := range j.Inputs {
		text.WriteString(strconv.Itoa(len(data)))
		text.WriteByte(':')
		text.WriteString(data)
	}
	return digest.Sum(text.String())
}

// Do works a job out.
func (j Job) Do() Answer {
	made := j.act()
	if len(made) == 0 || slices.ContainsFunc(made, isTooLong) {
		return Answer{Failed: true}
	}
	return Answer{Made: made}
}

// act has nothing where the action itself fails.
func (j Job) act() []string {
	data := strings.Join(j.Inputs, "")
	switch j.Action {
	case "cat":
		return []string{data}
	case "rev":
		return []string{reverse(data)}
	case "half":
		middle := len(data) / 2
		return []string{data[:middle], data[middle:]}
	case "count":
		return []string{strconv.Itoa(len(data))}
	case "gate":
		if !strings.Contains(data, "!") {
			return []string{data}
		}
	}
	return nil
}

// reverse turns bytes around, not letters.
func reverse(data string) string {
	b := []byte(data)
	slices.Reverse(b)
	return string(b)
}

func isTooLong(data string) bool { return len(data) > api.MaxData }
