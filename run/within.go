package run

import (
	"satchel/api"
	"satchel/syntax"
	"satchel/value"
)

// within is the value of an expr that has a query in it.
func within(w *syntax.Within, in *around) api.Value {
	var firsts []api.Value
	for _, r := range awaited(w.Query, in) {
		firsts = append(firsts, r[0])
	}
	switch w.Word {
	case "exists":
		return value.Bool(len(firsts) > 0)
	case "in":
		return value.In(expr(w.Operands[0], in), firsts...)
	}
	return value.Single(firsts...)
}

// awaited waits for the rows of a query within, which a goroutine of its own
// sends. No row has room to wait in their channel, so each is here before all is
// said to be done: select never has to choose.
func awaited(q syntax.Query, in *around) []value.Row {
	rows, done := make(chan value.Row), make(chan struct{})
	go send(q, in, rows, done)
	var all []value.Row
	for {
		select {
		case r := <-rows:
			all = append(all, r)
		case <-done:
			return all
		}
	}
}

// send reads the rows taken around, which nobody changes: who could do so waits.
func send(q syntax.Query, in *around, rows chan<- value.Row, done chan<- struct{}) {
	for _, r := range query(q, in) {
		rows <- r
	}
	close(done)
}
