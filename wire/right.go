package wire

import "consignor/api"

const greatestTo = 63

// Right tells whether a net may be.
func Right(n api.Net) bool {
	// ahead of what it holds, so that a list of any length is told fast
	if len(n.Flight) > api.MaxNet || !isTick(n.Last) || !isTick(n.Now) {
		return false
	}
	for _, m := range n.Flight {
		if !mayFly(n, m) {
			return false
		}
	}
	return true
}

// mayFly tells whether a message may be in a net's Flight.
func mayFly(n api.Net, m api.Msg) bool {
	sent := 1 <= m.Id && m.Id <= n.Last && 0 <= m.At && m.At <= n.Now
	return sent && isTo(m.To) && isBody(m.Body)
}

func isTick(n int) bool { return 0 <= n && n <= api.MaxTick }

func isTo(n int) bool { return 0 <= n && n <= greatestTo }

func isBody(s string) bool { return len(s) <= api.MaxText }
