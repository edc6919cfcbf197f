"""Of which parts expressions and statements are made, by their words.

A part has a form: "integer", "name", "op", "kind", "givens", "rows", "expression", "expressions",
"statement" or "body".
"""

WORKS = ("add", "sub", "mul", "quo", "rest", "less", "same")
KINDS = ("cell", "function", "generator", "integer", "nothing", "word")
MAKES = ("make", "maker")

EXPRESSIONS = {
    "integer": ("integer",),
    "word": ("name",),
    "nothing": (),
    "name": ("name",),
    "work": ("op", "expression", "expression"),
    "cell": ("rows",),
    "field": ("expression", "name"),
    "make": ("givens", "body"),
    "maker": ("givens", "body"),
    "call": ("expression", "expressions"),
    "next": ("expression",),
    "is": ("kind", "expression"),
}

STATEMENTS = {
    "let": ("name", "expression"),
    "put": ("name", "expression"),
    "store": ("expression", "name", "expression"),
    "tell": ("expression",),
    "do": ("expression",),
    "if": ("expression", "body", "body"),
    "while": ("expression", "body"),
    "back": ("expression",),
    "throw": ("expression",),
    "try": ("body", "name", "body"),
    "yield": ("expression",),
}


def forms_of(form, word):
    """Return the forms of the parts behind a word, or None if no expression or statement has it."""
    if form == "expression":
        return EXPRESSIONS.get(word)
    return STATEMENTS.get(word)


def pieces(form, thing):
    """Return the list of the pairs (form, part) of what stands directly in a thing of a form."""
    if form in ("expression", "statement"):
        return list(zip(forms_of(form, thing[0]), thing[1:]))
    if form == "body":
        return [("statement", part) for part in thing]
    if form == "expressions":
        return [("expression", part) for part in thing]
    if form == "rows":
        return [("expression", part) for _, part in thing]
    return []
