package check

// solver finds the answers of problems. Those that ask for one another, on whatever way, are a circle: they are answered together, behind all others for which they ask. The schema has no circle with a taking away, so that what is taken away is known whole by then.
type solver struct {
	met     int        // how many problems were met
	circles int        // how many circles were answered
	open    []*problem // those that were met, and aren't answered yet
	facts   []fact     // those that nobody was told yet
}

// fact is an object that is in a problem's answer.
type fact struct {
	problem *problem
	object  string
}

// visit: a problem is answered, or waits for one that is open still, with which it makes a circle.
func (s *solver) visit(p *problem) {
	s.met++
	p.order, p.low = s.met, s.met
	s.open = append(s.open, p)
	for _, asked := range p.asks {
		if asked.order == 0 {
			s.visit(asked)
		}
		if asked.circle == 0 {
			p.low = min(p.low, asked.low)
		}
	}
	if p.low == p.order {
		s.settle(s.close(p))
	}
}

// close: the circle of those that are open from a problem on; they are open no more.
func (s *solver) close(p *problem) []*problem {
	first := len(s.open) - 1
	for s.open[first] != p {
		first--
	}
	circle := s.open[first:]
	s.open = s.open[:first]
	s.circles++
	for _, each := range circle {
		each.circle = s.circles
	}
	return circle
}

// settle: a circle is answered.
func (s *solver) settle(circle []*problem) {
	for _, p := range circle {
		p.eachObject(func(object string) { s.judge(p, object) })
	}
	for len(s.facts) > 0 {
		last := len(s.facts) - 1
		f := s.facts[last]
		s.facts = s.facts[:last]
		s.tell(f)
	}
}

// judge: an object is in a problem's answer, if its leaves say so.
func (s *solver) judge(p *problem, object string) {
	has := func(leaf int) bool { return p.leaves[leaf].has(object) }
	if !p.answer.has(object) && p.plan.whole.holds(has) {
		p.answer.add(object)
		s.facts = append(s.facts, fact{p, object})
	}
}

// tell: the leaves that take in an answer have an object of it too. Problems of other circles are judged when it is their turn.
func (s *solver) tell(f fact) {
	for _, t := range f.problem.takers {
		if t.leaf.add(f.object) && t.problem.circle == f.problem.circle {
			s.judge(t.problem, f.object)
		}
	}
}

// eachObject hands over the objects of all leaves, each once. They may come in any order: whether one is in an answer hangs on no other one.
func (p *problem) eachObject(hand func(object string)) {
	handed := set[string]{}
	for _, leaf := range p.leaves {
		for object := range leaf {
			if handed.add(object) {
				hand(object)
			}
		}
	}
}
