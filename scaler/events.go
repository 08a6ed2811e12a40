package scaler

import "scaler/api"

// Decisions goes through what a controller decides at events (P18).
func Decisions(events api.Seq[api.Event], c *Controller) api.Seq2[int, api.Decision] {
	return func(yield func(int, api.Decision) bool) {
		if events == nil || c == nil {
			return
		}
		ticks := 0
		through(events, func(e api.Event) bool {
			if !e.Tick {
				c.Feed(e.Name, e.Value, e.Time)
				return true
			}
			number := ticks
			ticks++
			return yield(number, c.Tick(e.Time))
		})
	}
}

// through hands events to take till that answers false. If events panics, it ends there. If take panics, that comes through, even where events recovers it: within take runs the caller's own body.
func through(events api.Seq[api.Event], take func(api.Event) bool) {
	over := false
	var own any
	defer func() {
		over = true
		recover()
		if own != nil {
			panic(own)
		}
	}()
	events(func(e api.Event) bool {
		// Whoever wrote events may not heed the answer, or keep this function.
		if over {
			return false
		}
		over = true // unless take comes back and wants more
		defer func() {
			if own = recover(); own != nil {
				panic(own)
			}
		}()
		over = !take(e)
		return !over
	})
}
