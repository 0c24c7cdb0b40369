package sos

import (
	"slices"

	"semblance/act"
	"semblance/api"
	"semblance/term"
)

// derivation makes the steps of one term out of those of what it needs.
type derivation struct {
	store *term.Store
	term  api.Term
	given [][]api.Step // the steps of what it needs, the left part's first
	steps []api.Step   // what was derived
}

// ruleOf tells the rule of a kind of terms.
func ruleOf(kind int) func(*derivation) error {
	rules := [...]func(*derivation) error{
		api.TermNil:    (*derivation).none,
		api.TermPrefix: (*derivation).prefix,
		api.TermSum:    (*derivation).either,
		api.TermPar:    (*derivation).parallel,
		api.TermRes:    (*derivation).restriction,
		api.TermRen:    (*derivation).renaming,
		api.TermConst:  (*derivation).either,
	}
	return rules[kind]
}

// add adds a step, unless it stands there already; it gives up, if there are too many then.
func (d *derivation) add(step api.Step) error {
	switch {
	case slices.Contains(d.steps, step):
		return nil
	case len(d.steps) == api.MaxSteps:
		return api.ErrSteps
	}
	d.steps = append(d.steps, step)
	return nil
}

// addAll adds steps that are kept. The first list is not copied but shared, until a further step comes:
// else a long sum of the same few terms would be kept as often as it has parts.
func (d *derivation) addAll(steps []api.Step) error {
	if len(d.steps) == 0 {
		d.steps = slices.Clip(steps)
		return nil
	}
	for _, step := range steps {
		if err := d.add(step); err != nil {
			return err
		}
	}
	return nil
}

// lead adds a step to a term that is like this one but for its parts.
func (d *derivation) lead(label, a, b int) error {
	t := d.term
	t.A, t.B = a, b
	to, err := d.store.Put(t)
	if err != nil {
		return err
	}
	return d.add(api.Step{Label: label, To: to})
}

func (d *derivation) none() error { return nil }

func (d *derivation) prefix() error {
	return d.add(api.Step{Label: d.term.Label, To: d.term.A})
}

// either is the rule of a sum and of a constant, whose body is as the last part of a sum.
func (d *derivation) either() error {
	last := d.given[0]
	switch d.term.Kind {
	case api.TermSum:
		if err := d.addAll(d.given[0]); err != nil {
			return err
		}
		last = d.given[1]
		fallthrough
	case api.TermConst:
		return d.addAll(last)
	}
	return nil
}

func (d *derivation) parallel() error {
	for _, left := range d.given[0] {
		if err := d.lead(left.Label, left.To, d.term.B); err != nil {
			return err
		}
	}
	for _, right := range d.given[1] {
		if err := d.lead(right.Label, d.term.A, right.To); err != nil {
			return err
		}
	}
	for _, left := range d.given[0] {
		if err := d.meet(left); err != nil {
			return err
		}
	}
	return nil
}

// meet adds the silent steps of a step of the left part with those of the right one that have its co-label.
func (d *derivation) meet(left api.Step) error {
	// The silent action is its own co-label, but nothing meets it.
	if left.Label == api.Tau {
		return nil
	}
	for _, right := range d.given[1] {
		if right.Label != act.Co(left.Label) {
			continue
		}
		if err := d.lead(api.Tau, left.To, right.To); err != nil {
			return err
		}
	}
	return nil
}

func (d *derivation) restriction() error {
	for _, step := range d.given[0] {
		if act.In(d.term.Names, step.Label) {
			continue
		}
		if err := d.lead(step.Label, step.To, 0); err != nil {
			return err
		}
	}
	return nil
}

func (d *derivation) renaming() error {
	for _, step := range d.given[0] {
		if err := d.lead(act.Rename(d.term.Pairs, step.Label), step.To, 0); err != nil {
			return err
		}
	}
	return nil
}
