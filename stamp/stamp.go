// Package stamp is layer 1: timestamps, ballots, and how many are enough. See shared/doc/01-stamp.md.
package stamp

import "lictor/api"

// The ballots: the first, its owner's second, and the least of those that are each replica's own.
const (
	Quick = iota
	Own
	Free
)

// width is how far the timestamps of two counts that follow each other lie apart.
const width = 16

// Right tells whether a cluster may have n replicas.
func Right(n int) bool { return api.MinNodes <= n && n <= api.MaxNodes }

// Classic is how many are a classic quorum; 0, if there can't be n replicas.
func Classic(n int) int {
	if !Right(n) {
		return 0
	}
	return n/2 + 1
}

// Fast is how many are a fast quorum; 0, if there can't be n replicas.
func Fast(n int) int {
	if !Right(n) {
		return 0
	}
	return (3*n + 3) / 4
}

// Need is how many of q replicas at least must have done what a fast quorum of all n has.
// It may be below 0: then the q alone can't tell anything.
func Need(n, q int) int {
	if !Right(n) || q < 0 || q > n {
		return 0
	}
	return Fast(n) - (n - q)
}

// Make is the timestamp of a count, of a replica.
func Make(count, node int) (int, api.Errno) {
	if node < 0 || node >= api.MaxNodes || count < 1 {
		return 0, api.ErrArg
	}
	if count >= api.MaxClock {
		return 0, api.ErrOver
	}
	return width*count + node, api.OK
}

// Count is a timestamp's count; 0, if it is none.
func Count(t int) int {
	if !Valid(t) {
		return 0
	}
	return t / width
}

// Node is the number of the replica that made a timestamp; -1, if it is none.
func Node(t int) int {
	if !Valid(t) {
		return -1
	}
	return t % width
}

// Valid tells whether t is a timestamp.
func Valid(t int) bool {
	return width <= t && t < width*api.MaxClock && t%width < api.MaxNodes
}

// Next is a replica's timestamp whose count is one more than that of t.
// What is no timestamp has the count 0, so that the first one is next then.
func Next(t, node int) (int, api.Errno) { return Make(Count(t)+1, node) }

// Owner is the replica whose ballot b is, of n; -1, if it is nobody's own.
func Owner(b, n int) int {
	if !Right(n) || b < Free || b > api.MaxBallot {
		return -1
	}
	return (b - Free) % n
}

// Above is a replica's least ballot of its own that is above b.
func Above(b, node, n int) (int, api.Errno) {
	if !Right(n) || node < 0 || node >= n {
		return 0, api.ErrArg
	}
	// Looked at ahead of adding to b, which may be as great as a number can be.
	if b >= api.MaxBallot {
		return 0, api.ErrOver
	}
	least := b + 1
	if least < Free {
		least = Free
	}
	own := least + (node-(least-Free)%n+n)%n
	if own > api.MaxBallot {
		return 0, api.ErrOver
	}
	return own, api.OK
}
