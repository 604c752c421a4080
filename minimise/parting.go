package minimise

// parting is states, each in a class; those of a class stand side by side.
type parting struct {
	states []int // class by class
	at     []int // of each state where it stands
	class  []int // of each state
	spans  []span
}

// span is where a class stands: from begin up to, and without, end. Those of its states that are marked stand ahead of marked.
type span struct {
	begin, marked, end int
}

// whole is so many states in one class.
func whole(count int) parting {
	p := parting{class: make([]int, count), spans: []span{{end: count}}}
	for s := range count {
		p.states, p.at = append(p.states, s), append(p.at, s)
	}
	return p
}

func (p *parting) members(class int) []int {
	s := p.spans[class]
	return p.states[s.begin:s.end]
}

// mark marks states, each of which stands once; it tells the classes that have some of them.
func (p *parting) mark(states []int) []int {
	var touched []int
	for _, s := range states {
		of := &p.spans[p.class[s]]
		if of.marked == of.begin {
			touched = append(touched, p.class[s])
		}
		p.swap(p.at[s], of.marked)
		of.marked++
	}
	return touched
}

func (p *parting) swap(i, j int) {
	a, b := p.states[i], p.states[j]
	p.states[i], p.states[j] = b, a
	p.at[a], p.at[b] = j, i
}

// cut makes the marked states of a class a class of their own, and tells its number; false, if there are no others. No state is marked then.
func (p *parting) cut(class int) (int, bool) {
	s := p.spans[class]
	if s.marked == s.end {
		p.spans[class].marked = s.begin
		return 0, false
	}
	made := len(p.spans)
	p.spans[class] = span{s.marked, s.marked, s.end}
	p.spans = append(p.spans, span{s.begin, s.begin, s.marked})
	for _, state := range p.members(made) {
		p.class[state] = made
	}
	return made, true
}

func (p *parting) smaller(a, b int) int {
	if len(p.members(b)) < len(p.members(a)) {
		return b
	}
	return a
}
