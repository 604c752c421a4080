package samples

import (
	"bolter/api"
	"bolter/expand"
	"bolter/spec"
)

// Cores tells the cores of a rule file.
func Cores(text string) ([]api.Core, error) {
	s, err := spec.Parse(text)
	if err != nil {
		return nil, err
	}
	return expand.Expand(s)
}
