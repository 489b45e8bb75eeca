package ferry

import "ferry/api"

// Check tells whether it is a configuration (P3).
func Check(c api.Config) api.Errno {
	if bytesFit(c) && countsFit(c) {
		return api.OK
	}
	return api.ErrConfig
}

// bytesFit looks at Max ahead of what is held against it: a Max that is known
// to be small can't wrap round when Head is added to it.
func bytesFit(c api.Config) bool {
	return sectorsWithin(c.Size, api.MaxSize) &&
		sectorsWithin(c.Max, api.MaxData) &&
		within(c.Quantum, c.Max, api.MaxQuantum) &&
		within(c.Out, c.Max+api.Head, api.MaxOut)
}

func countsFit(c api.Config) bool {
	return within(c.Clients, 1, api.MaxClients) &&
		within(c.Queue, 1, api.MaxQueue) &&
		within(c.Rate, 1, api.MaxRate) &&
		within(c.Burst, 1, api.MaxBurst) &&
		within(c.Workers, 1, api.MaxWorkers)
}

func sectorsWithin(n, most int) bool {
	return within(n, api.Sector, most) && n%api.Sector == 0
}

func within(n, least, most int) bool {
	return least <= n && n <= most
}
