package parse

import "chancel/api"

// maxConds is how many conditions a policy may have.
const maxConds = 4

func (r *reader) policy() api.Policy {
	var p api.Policy
	switch {
	case r.word("forbid"):
		p.Forbid = true
		fallthrough
	case r.word("permit"):
		r.needSign("(")
		p.Principal = r.scopeOf("principal")
		r.needSign(",")
		p.Action = r.scopeOf("action")
		r.needSign(",")
		p.Resource = r.scopeOf("resource")
		r.needSign(")")
		p.Conds = r.conds()
		r.needSign(";")
	default:
		r.fail()
	}
	return p
}

func (r *reader) scopeOf(variable string) api.Scope {
	r.needWord(variable)
	switch {
	case r.sign("=="):
		return api.Scope{Kind: api.SSame, U: r.uid()}
	case r.word("in"):
		return api.Scope{Kind: api.SIn, U: r.uid()}
	}
	return api.Scope{Kind: api.SAny}
}

func (r *reader) conds() []api.Cond {
	var l []api.Cond
	for {
		var c api.Cond
		switch {
		case r.word("unless"):
			c.Unless = true
			fallthrough
		case r.word("when"):
			r.needSign("{")
			c.E = r.expr()
			r.needSign("}")
			l = append(l, c)
		default:
			return l
		}
	}
}

func finishPolicy(p *api.Policy) api.Errno {
	if len(p.Conds) > maxConds {
		return api.ErrMany
	}
	for _, c := range p.Conds {
		if err := Check(c.E); err != api.OK {
			return err
		}
	}
	return api.OK
}
