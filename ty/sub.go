package ty

import "hindsight/api"

// Sub is a substitution: which type each variable stands for.
type Sub struct {
	next   int
	stands []Type // by variable; Kind 0 for a variable that stands for nothing
}

// New returns an empty substitution.
func New() *Sub { return &Sub{} }

// Fresh returns the next variable.
func (s *Sub) Fresh() Type {
	t := Type{Kind: variable, Var: s.next}
	s.next = min(s.next+1, mostVar)
	return t
}

// Unify makes two types equal, or leaves the substitution as it is.
func (s *Sub) Unify(a, b Type) api.Errno {
	if !Good(a) || !Good(b) {
		return api.EARG
	}
	u := unifier{s: s}
	err := u.unify(clone(a), clone(b))
	if err == api.OK && len(u.set) > 0 && s.great() {
		err = api.ELIMIT
	}
	if err != api.OK {
		for _, v := range u.set {
			s.stands[v] = Type{}
		}
	}
	return err
}

// Apply replaces all variables by what they stand for.
func (s *Sub) Apply(t Type) Type {
	if !Good(t) {
		return t
	}
	return s.full(t)
}

func (s *Sub) full(t Type) Type {
	t = s.resolve(t)
	var args []Type
	for _, a := range t.Args {
		args = append(args, s.full(a))
	}
	t.Args = args
	return t
}

// clone copies a type, so that the substitution keeps no list of its caller.
func clone(t Type) Type {
	var args []Type
	for _, a := range t.Args {
		args = append(args, clone(a))
	}
	t.Args = args
	return t
}

func (s *Sub) resolve(t Type) Type {
	for t.Kind == variable && t.Var < len(s.stands) && s.stands[t.Var].Kind != 0 {
		t = s.stands[t.Var]
	}
	return t
}

// count counts the nodes of a type with all variables replaced until there are more than most.
func (s *Sub) count(t Type, most int) int {
	n := 1
	for _, a := range s.resolve(t).Args {
		if n > most {
			break
		}
		n += s.count(a, most-n)
	}
	return n
}

// great reports whether a variable stands for a type of more than 500 nodes. Each variable is
// measured once: the types are too many to be replaced one by one after every unification.
func (s *Sub) great() bool {
	known := make([]int, len(s.stands))
	for v := range s.stands {
		if s.measure(Type{Kind: variable, Var: v}, known) > mostNodes {
			return true
		}
	}
	return false
}

func (s *Sub) measure(t Type, known []int) int {
	if t.Kind == variable && t.Var < len(s.stands) && s.stands[t.Var].Kind != 0 {
		if known[t.Var] == 0 {
			known[t.Var] = s.measure(s.stands[t.Var], known)
		}
		return known[t.Var]
	}
	n := 1
	for _, a := range t.Args {
		n = min(n+s.measure(a, known), mostNodes+1)
	}
	return n
}

// unifier remembers the variables that it has set.
type unifier struct {
	s   *Sub
	set []int
}

func (u *unifier) unify(a, b Type) api.Errno {
	a, b = u.s.resolve(a), u.s.resolve(b)
	if u.s.count(a, mostNodes) > mostNodes || u.s.count(b, mostNodes) > mostNodes {
		return api.ELIMIT
	}
	switch {
	case a.Kind == variable && b.Kind == variable:
		if a.Var > b.Var {
			u.stand(a.Var, b)
		} else if b.Var > a.Var {
			u.stand(b.Var, a)
		}
		return api.OK
	case a.Kind == variable:
		return u.bind(a.Var, b)
	case b.Kind == variable:
		return u.bind(b.Var, a)
	}
	if a.Kind != b.Kind || a.Name != b.Name {
		return api.ETYPE
	}
	for i := range a.Args {
		if err := u.unify(a.Args[i], b.Args[i]); err != api.OK {
			return err
		}
	}
	return api.OK
}

func (u *unifier) bind(v int, t Type) api.Errno {
	if u.occurs(v, t) {
		return api.ETYPE
	}
	u.stand(v, t)
	return api.OK
}

func (u *unifier) occurs(v int, t Type) bool {
	t = u.s.resolve(t)
	if t.Kind == variable {
		return t.Var == v
	}
	for _, a := range t.Args {
		if u.occurs(v, a) {
			return true
		}
	}
	return false
}

func (u *unifier) stand(v int, t Type) {
	for len(u.s.stands) <= v {
		u.s.stands = append(u.s.stands, Type{})
	}
	u.s.stands[v] = t
	u.set = append(u.set, v)
}
