package store

import (
	"slices"

	"chancel/api"
	"chancel/ents"
	"chancel/fit"
	"chancel/lex"
	"chancel/parse"
	"chancel/types"
)

// Apply does a command, or tells why it is not done.
func (s *Store) Apply(kind int, name, text string) api.Errno {
	if err := checkWords(kind, name, text); err != api.OK {
		return err
	}
	switch kind {
	case api.CSchema:
		return s.setSchema(text)
	case api.CPut:
		return s.putPolicy(name, text)
	case api.CDrop:
		return s.dropPolicy(name)
	case api.CEntity:
		return s.putEntity(text)
	case api.CGone:
		return s.dropEntity(text)
	}
	return api.ErrKind
}

// checkWords tells what can be told of a command ahead of reading its text: whether it has a name where it needs one, and nothing where it needs nothing.
func checkWords(kind int, name, text string) api.Errno {
	spare := name
	switch kind {
	case api.CPut:
		if !lex.Ident(name) {
			return api.ErrName
		}
	case api.CDrop:
		// It has its policy's name where the others have none, and no text.
		spare = text
		fallthrough
	case api.CSchema, api.CEntity, api.CGone:
		if spare != "" {
			return api.ErrArg
		}
	}
	return api.OK
}

func (s *Store) setSchema(text string) api.Errno {
	k, err := parse.Schema(text)
	if err != api.OK {
		return err
	}
	if err := s.checkBy(k); err != api.OK {
		return err
	}
	s.schema = k
	return api.OK
}

func (s *Store) putPolicy(name, text string) api.Errno {
	p, err := parse.Policy(text)
	if err != api.OK {
		return err
	}
	if err := types.Check(s.schema, p); err != api.OK {
		return err
	}
	if _, is := s.policies[name]; !is && len(s.policies) == api.MaxPolicies {
		return api.ErrMany
	}
	if s.policies == nil {
		s.policies = map[string]api.Policy{}
	}
	s.policies[name] = p
	return api.OK
}

func (s *Store) dropPolicy(name string) api.Errno {
	if _, is := s.policies[name]; !is {
		return api.ErrNone
	}
	delete(s.policies, name)
	return api.OK
}

func (s *Store) putEntity(text string) api.Errno {
	e, err := parse.Entity(text)
	if err != api.OK {
		return err
	}
	if err := ents.Check([]api.Entity{e}); err != api.OK {
		return err
	}
	if err := fit.Entity(s.schema, s.entities, e); err != api.OK {
		return err
	}
	next := ents.Put(s.entities, e)
	if len(next) > api.MaxEntities {
		return api.ErrMany
	}
	s.entities = next
	return api.OK
}

func (s *Store) dropEntity(text string) api.Errno {
	u, err := parse.Uid(text)
	if err != api.OK {
		return err
	}
	next := ents.Drop(s.entities, u)
	switch {
	case len(next) == len(s.entities):
		return api.ErrNone
	case isParent(next, u):
		return api.ErrBusy
	}
	s.entities = next
	return api.OK
}

func isParent(l []api.Entity, u api.Uid) bool {
	return slices.ContainsFunc(l, func(e api.Entity) bool { return slices.Contains(e.Parents, u) })
}
