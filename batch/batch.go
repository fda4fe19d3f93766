// Package batch: jobs that wait for one another, on a pool of nodes: see DOC.md.
package batch

import (
	"batch/api"
	"batch/head"
)

// System is a pool of nodes with its jobs.
type System struct{}

// Read reads a batch (P3, P4).
func Read(text string) ([]api.Job, api.Errno, int) {
	heads, err, at := head.Read(text)
	if err != api.OK {
		return nil, err, at
	}
	var jobs []api.Job
	for _, h := range heads {
		jobs = append(jobs, h.Job)
	}
	return jobs, api.OK, 0
}

// Exec runs a code over the states of jobs (P5).
func Exec(code string, states []int) (int, api.Errno) { return 0, api.OK }

// New makes a system (P6).
func New(nodes int) (*System, api.Errno) { return nil, api.OK }

// Clock tells the time, how many nodes are free, and how many jobs there are (P6).
func (s *System) Clock() (int, int, int) { return 0, 0, 0 }

// Submit takes a batch (P7, P8).
func (s *System) Submit(text string) api.Answer { return api.Answer{} }

// Code tells by which code a job is decided (P9).
func (s *System) Code(id int) (string, api.Errno) { return "", api.OK }

// Status tells how a job is (P10).
func (s *System) Status(id int) (api.Status, api.Errno) { return api.Status{}, api.OK }

// Queue tells which jobs are queued, in their order (P10).
func (s *System) Queue() []int { return nil }

// Tick lets time go by (P12).
func (s *System) Tick(n int) api.Errno { return api.OK }

// Finish ends a running job (P13).
func (s *System) Finish(id int, ok bool) api.Errno { return api.OK }

// Cancel ends a job that has not ended (P13).
func (s *System) Cancel(id int) api.Errno { return api.OK }
