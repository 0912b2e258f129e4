package trial

// NeedsLast is for the tests: of a Play whose keys are closed in the reverse of the order in which they were put on DONE nothing else comes by it.
func (p Played) NeedsLast(number int) error { return p.needsLast(number) }
