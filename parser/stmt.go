package parser

import "classroom/api"

func (p *parser) block() []api.Stmt {
	var l []api.Stmt
	p.open("{")
	for !p.sign("}") && p.token().Kind != api.TkEnd {
		l = append(l, p.stmt())
	}
	p.close("}")
	return l
}

func (p *parser) stmt() api.Stmt {
	switch {
	case p.word("let"):
		return p.let()
	case p.word("while"):
		s := p.begin(api.StWhile)
		s.Expr = []api.Expr{p.expr()}
		s.Body = p.block()
		return s
	case p.word("if"):
		return p.branch()
	case p.word("return"):
		s := p.begin(api.StReturn)
		s.Expr = []api.Expr{p.expr()}
		p.expect(";")
		return s
	case p.token().Kind == api.TkName:
		return p.named()
	}
	p.fail(api.ErrSyntax)
	return api.Stmt{}
}

// begin skips the word that a statement begins with.
func (p *parser) begin(kind int) api.Stmt {
	s := api.Stmt{Kind: kind, At: p.token().At}
	p.next++
	return s
}

func (p *parser) let() api.Stmt {
	s := p.begin(api.StLet)
	s.Name = p.text(api.TkName)
	p.expect("=")
	s.Expr = []api.Expr{p.expr()}
	p.expect(";")
	return s
}

func (p *parser) branch() api.Stmt {
	s := p.begin(api.StIf)
	s.Expr = []api.Expr{p.expr()}
	s.Body = p.block()
	if !p.word("else") {
		return s
	}
	p.next++
	if p.word("if") {
		s.Else = []api.Stmt{p.branch()}
	} else {
		s.Else = p.block()
	}
	return s
}

// named parses a statement that begins with a name: an assignment or a call.
func (p *parser) named() api.Stmt {
	t := p.token()
	p.next++
	s := api.Stmt{Kind: api.StCall, At: t.At}
	if p.accept("=") {
		s.Kind, s.Name = api.StAssign, t.Text
		s.Expr = []api.Expr{p.expr()}
	} else {
		s.Expr = []api.Expr{p.call(t)}
	}
	p.expect(";")
	return s
}
