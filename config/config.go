// Package config: which configurations the two ends can have.
package config

import "gist/api"

// MinRefresh is the least Refresh: with 1 every frame would be whole.
const MinRefresh = 2

// Valid tells whether c is a configuration.
func Valid(c api.Config) bool {
	cids := c.Cids >= 1 && c.Cids <= api.MaxCids
	keep := c.Keep >= 1 && c.Keep <= api.MaxKeep
	refresh := c.Refresh >= MinRefresh && c.Refresh <= api.MaxRefresh
	return cids && keep && refresh
}
