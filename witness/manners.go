package witness

import (
	"semblance/api"
	"semblance/bitrow"
	"semblance/system"
)

// kinds has of each state the kinds of steps by which it meets others: a kind is a label, and a class that is led to.
type kinds struct {
	classes []int
	many    int // how many classes there are
	rows    []bitrow.Row
}

// noKinds makes kinds of which no state has any yet.
func noKinds(graph *system.Graph, classes []int) kinds {
	many := system.Together(classes)
	return kinds{classes: classes, many: many, rows: bitrow.Several(graph.States(), graph.Labels()*many)}
}

// kindOf tells the number of a step's kind.
func (k kinds) kindOf(step api.Step) int { return step.Label*k.many + k.classes[step.To] }

// add gives a state the kind of a step.
func (k kinds) add(state int, step api.Step) { k.rows[state].Add(k.kindOf(step)) }

func (k kinds) meets(state int, step api.Step) bool { return k.rows[state].Has(k.kindOf(step)) }

// strongly has the kinds of the states' own steps.
func strongly(graph *system.Graph, classes []int) manner { return ownKinds(graph, classes) }

func ownKinds(graph *system.Graph, classes []int) kinds {
	k := noKinds(graph, classes)
	for _, edge := range graph.Edges() {
		k.add(edge.From, api.Step{Label: edge.Label, To: edge.To})
	}
	return k
}

// staying has kinds of steps, and meets besides, by no step at all, a silent one to where it is related.
type staying struct{ kinds }

func (k staying) meets(state int, step api.Step) bool {
	stays := step.Label == api.Tau && k.classes[step.To] == k.classes[state]
	return stays || k.kinds.meets(state, step)
}

// branchingly has the kinds of the steps behind silent ones that end in the state's class, wherever they lead through.
func branchingly(graph *system.Graph, classes []int) manner {
	own, all := ownKinds(graph, classes), noKinds(graph, classes)
	for state, ends := range silentOf(graph) {
		for end := range ends.All() {
			if classes[end] == classes[state] {
				all.rows[state].Join(own.rows[end])
			}
		}
	}
	return staying{all}
}

// weakly has the kinds of the weak steps.
func weakly(graph *system.Graph, classes []int) manner {
	silent := silentOf(graph)
	tails, all := weakTails(graph, classes, silent), noKinds(graph, classes)
	for state, ends := range silent {
		for end := range ends.All() {
			all.rows[state].Join(tails.rows[end])
		}
	}
	return all
}

// weakTails has the kinds of the weak steps ahead of whose step no silent one stands, and of the silent one that stays.
func weakTails(graph *system.Graph, classes []int, silent []bitrow.Row) kinds {
	tails := noKinds(graph, classes)
	for state := range silent {
		tails.add(state, api.Step{Label: api.Tau, To: state})
	}
	for _, edge := range graph.Edges() {
		for end := range silent[edge.To].All() {
			tails.add(edge.From, api.Step{Label: edge.Label, To: end})
		}
	}
	return tails
}

// silentOf tells of each state those that come from it by silent steps, none or more.
func silentOf(graph *system.Graph) []bitrow.Row {
	silent := bitrow.Several(graph.States(), graph.States())
	for state, ends := range silent {
		ends.Add(state)
		for _, end := range graph.By(state, api.Tau) {
			ends.Add(end)
		}
	}
	bitrow.Close(silent)
	return silent
}

// relation is a relation by its pairs, whose steps are met in the manner of a simulation.
type relation struct {
	pairs [][2]int       // each once
	by    []bitrow.Row   // of each state those that it is related to
	ends  [][]bitrow.Row // by label and state, where steps lead
}

// relationOf makes the relation of pairs, which keep the order in which they stand first.
func relationOf(graph *system.Graph, pairs [][2]int) *relation {
	states := graph.States()
	r := &relation{by: bitrow.Several(states, states), ends: make([][]bitrow.Row, graph.Labels())}
	for _, pair := range pairs {
		if row := r.by[pair[0]]; !row.Has(pair[1]) {
			row.Add(pair[1])
			r.pairs = append(r.pairs, pair)
		}
	}
	for label := range r.ends {
		r.ends[label] = bitrow.Several(states, states)
	}
	for _, edge := range graph.Edges() {
		r.ends[edge.Label][edge.From].Add(edge.To)
	}
	return r
}

func (r *relation) meets(state int, step api.Step) bool {
	return r.ends[step.Label][state].Meets(r.by[step.To])
}
