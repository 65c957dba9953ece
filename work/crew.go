package work

import "sync"

// Crew: the workers of one build, by their numbers.
type Crew struct {
	workers []worker
	end     chan struct{}
}

// worker: a goroutine that takes jobs from one channel and sends its answers over the other one.
type worker struct {
	jobs    chan Job
	answers chan Answer
}

// Start begins so many workers. The group waits for them; they end when End is called.
func Start(workers int, group *sync.WaitGroup) Crew {
	c := Crew{workers: make([]worker, workers), end: make(chan struct{})}
	for i := range c.workers {
		// An answer has room to lie in until its tick has come: no worker waits for someone to take it.
		w := worker{jobs: make(chan Job), answers: make(chan Answer, 1)}
		c.workers[i] = w
		group.Add(1)
		go w.run(c.end, group)
	}
	return c
}

func (w worker) run(end <-chan struct{}, group *sync.WaitGroup) {
	defer group.Done()
	for {
		select {
		case job := <-w.jobs:
			w.answers <- job.Do()
		case <-end:
			return
		}
	}
}

// Give hands a job to a worker who has none.
func (c Crew) Give(worker int, job Job) {
	c.workers[worker].jobs <- job
}

// Take is the worker's answer to the job that it was given last.
func (c Crew) Take(worker int) Answer {
	return <-c.workers[worker].answers
}

// End sends all workers home.
func (c Crew) End() {
	close(c.end)
}
