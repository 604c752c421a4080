package spec

// refusal is what ends a reading or a writing by panic, however deep it is.
type refusal struct {
	err error
}

// caught runs what may end by a refusal, and tells the refusal's error. No other panic is taken for one.
func caught(run func()) (err error) {
	defer func() {
		if p := recover(); p != nil {
			err = p.(refusal).err
		}
	}()
	run()
	return nil
}
