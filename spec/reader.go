package spec

import (
	"homograph/api"
	"homograph/words"
)

// reader reads declarations.
type reader struct {
	*list
	ways ways
	spec api.Spec
}

// read is Read of words, behind which the end stands.
func read(l []words.Word) (s api.Spec, err api.Errno, at int) {
	defer func() {
		if p, ok := recover().(problem); ok {
			s, err, at = api.Spec{}, p.err, p.at
		}
	}()
	r := reader{list: &list{l}}
	r.ways = ways{"token": r.token, "layout": r.layout, "start": r.start}
	r.declarations()
	return r.spec, api.OK, 0
}

// declarations reads all declarations.
func (r *reader) declarations() {
	for r.here().Kind != end {
		if !r.follow(r.ways) {
			r.rules()
		}
		r.expect(";")
	}
}

func (r *reader) token() {
	t := api.Token{Name: r.name(), Pattern: r.pattern()}
	o := options{list: r.list, token: &t}
	o.all()
	r.spec.Tokens = append(r.spec.Tokens, t)
}

func (r *reader) layout() {
	t := api.Token{Name: r.name(), Pattern: r.pattern(), Layout: true}
	r.spec.Tokens = append(r.spec.Tokens, t)
}

func (r *reader) start() {
	// A second start can't stand anywhere.
	delete(r.ways, "start")
	r.spec.Start = r.name()
}

// rules reads a name and the sequences that it stands for.
func (r *reader) rules() {
	left := r.name()
	r.expect(":")
	for more := true; more; more = r.skip("|") {
		r.spec.Rules = append(r.spec.Rules, api.Rule{Left: left, Right: r.names()})
	}
}

// options reads what may stand behind a token's pattern.
type options struct {
	*list
	ways  ways
	token *api.Token
}

// all reads options, up to a word that is none, or that is there a second time.
func (o *options) all() {
	o.ways = ways{"longest": o.longest, "prio": o.prio}
	for o.follow(o.ways) {
	}
}

func (o *options) longest() {
	delete(o.ways, "longest")
	o.token.Longest = true
}

func (o *options) prio() {
	delete(o.ways, "prio")
	o.token.Prio = o.number()
}
