package drawn

// Pick is one of several texts.
func (s *Source) Pick(l ...string) string { return l[s.Below(len(l))] }

// Gap is what separates words of a specification, of which there is at least one byte.
func (s *Source) Gap() string {
	gap := s.Pick(" ", "\t", "\r", "\n", "\r\n", "#\n", "# a /b/ \\ ;\n", "#\r#\xff\x00\n")
	for s.Below(3) == 0 {
		gap += s.Gap()
	}
	return gap
}
