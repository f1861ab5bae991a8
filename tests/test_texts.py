"""Promises [7] and [8]: expressions as text."""

import re
import unittest

import helper
from helper import A, B, BARRED, C, Case, D, FALSE, NONE, SIGNS, TRUE, call, compare
from keptops.errors import InvalidExpression, InvalidText
from keptops.exprs import check_expression
from keptops.texts import expression_text, read_expression

F = call("f")

# The rules of [7], from the loosest to the tightest, as what may stand for each word.
GRAMMAR = {
    "cond": [["or"], ["or", "'if", "or", "'else", "cond"]],
    "or": [["and"], ["or", "'or", "and"]],
    "and": [["not"], ["and", "'and", "not"]],
    "not": [["cmp"], ["'not", "not"]],
    "cmp": [["dflt"], ["dflt", "links"], ["dflt", "'is", "'none"]],
    "links": [["sign", "dflt"], ["links", "sign", "dflt"]],
    "sign": [["'" + sign] for sign in SIGNS],
    "dflt": [["prim"], ["dflt", "'??", "prim"]],
    "prim": [["'a"], ["'none"], ["'true"], ["'false"], ["'(", "cond", "')"], ["'a", "'(", "')"],
             ["'a", "'(", "list", "')"]],
    "list": [["cond"], ["list", "',", "cond"]],
}


def closed(columns, items):
    """The last column of an Earley table: with all items that follow from these."""
    column = list(dict.fromkeys(items))
    for head, body, dot, start in column:
        if dot < len(body) and body[dot][0] != "'":
            more = [(body[dot], tuple(rule), 0, len(columns)) for rule in GRAMMAR[body[dot]]]
        elif dot == len(body):
            ahead = columns[start] if start < len(columns) else column
            more = [(h, b, d + 1, s) for h, b, d, s in ahead if d < len(b) and b[d] == head]
        else:
            more = []
        column += [item for item in more if item not in column]
    return column


def begin():
    return [closed([], [("whole", ("cond",), 0, 0)])]


def behind(columns, token):
    """The table behind one more token, or None if the text cannot be continued with it."""
    items = [(h, b, d + 1, s) for h, b, d, s in columns[-1] if d < len(b) and b[d] == "'" + token]
    return [*columns, closed(columns, items)] if items else None


def complete(columns):
    return ("whole", ("cond",), 1, 0) in columns[-1]


def without_pairs(text):
    """The text without each of its pairs of brackets that is no call's."""
    open_at = []
    for at, sign in enumerate(text):
        if sign == "(":
            open_at.append(at)
        elif sign == ")":
            start = open_at.pop()
            # A blank in the place of each bracket leaves words apart.
            if start == 0 or not text[start - 1].isalpha():
                yield text[:start] + " " + text[start + 1:at] + " " + text[at + 1:]


class WritingTest(Case):
    def check_text(self, expr, text):
        self.assertEqual(self.check_call(expression_text, expr), text)
        self.assertEqual(self.check_call(read_expression, text), expr)

    def test_each_form(self):
        self.check_text(A, "a")
        self.check_text(("name", "abcdefgh"), "abcdefgh")
        self.check_text(call("zaz", ("name", "z")), "zaz(z)")
        self.check_text(NONE, "none")
        self.check_text(TRUE, "true")
        self.check_text(FALSE, "false")
        self.check_text(("not", A), "not a")
        self.check_text(("and", A, B), "a and b")
        self.check_text(("or", A, B), "a or b")
        self.check_text(("if", C, A, B), "a if c else b")
        self.check_text(("isnone", A), "a is none")
        self.check_text(("isnone", NONE), "none is none")
        self.check_text(("default", A, B), "a ?? b")
        self.check_text(F, "f()")
        self.check_text(call("f", A), "f(a)")
        self.check_text(call("f", A, NONE, call("g", B)), "f(a, none, g(b))")
        for sign in SIGNS:
            self.check_text(compare(A, (sign, B)), f"a {sign} b")
        self.check_text(compare(A, ("<", B), ("!=", C), (">=", TRUE), ("==", D)), "a < b != c >= true == d")

    def test_brackets_of_the_document(self):
        self.check_text(("and", A, ("and", B, C)), "a and (b and c)")
        self.check_text(("and", call("f", A), ("or", B, call("g"))), "f(a) and (b or g())")
        self.check_text(("and", ("and", A, B), C), "a and b and c")

    def test_brackets_by_operand(self):
        """One form within another at every operand: (bracketed at each operand, in order)."""
        within = {
            "if": ("if", C, A, B), "or": ("or", A, B), "and": ("and", A, B), "not": ("not", A),
            "compare": compare(A, ("<", B)), "isnone": ("isnone", A), "default": ("default", A, B), "call": F,
            "name": D, "none": NONE, "true": TRUE, "false": FALSE,
        }
        # The loosest form that needs no brackets at each operand, in the order of the tuple.
        places = [
            (lambda e: ("if", e, D, D), "or", "d if {} else d"), (lambda e: ("if", D, e, D), "or", "{} if d else d"),
            (lambda e: ("if", D, D, e), "if", "d if d else {}"),
            (lambda e: ("or", e, D), "or", "{} or d"), (lambda e: ("or", D, e), "and", "d or {}"),
            (lambda e: ("and", e, D), "and", "{} and d"), (lambda e: ("and", D, e), "not", "d and {}"),
            (lambda e: ("not", e), "not", "not {}"), (lambda e: ("isnone", e), "default", "{} is none"),
            (lambda e: compare(e, ("<", D)), "default", "{} < d"),
            (lambda e: compare(D, ("<", e)), "default", "d < {}"),
            (lambda e: compare(D, (">", D), ("<=", e)), "default", "d > d <= {}"),
            (lambda e: compare(D, (">", e), ("<=", D)), "default", "d > {} <= d"),
            (lambda e: ("default", e, D), "default", "{} ?? d"), (lambda e: ("default", D, e), "call", "d ?? {}"),
            (lambda e: call("g", e), "if", "g({})"), (lambda e: call("g", D, e, D), "if", "g(d, {}, d)"),
        ]
        tightness = list(within)
        for form, loosest, text in places:
            for word, expr in within.items():
                inner = expression_text(expr)
                bare = tightness.index(word) >= tightness.index(loosest)
                self.check_text(form(expr), text.format(inner if bare else f"({inner})"))

    def test_no_bracket_is_too_many(self):
        """Without any pair of brackets the text is read otherwise, or not at all; with it, as it was."""
        exprs = [*helper.small_expressions(), *helper.some_expressions(7, 400, levels=6, names="abcd", places=6)]
        for expr in exprs:
            text = expression_text(expr)
            self.assertEqual(read_expression(text), expr)
            for shorter in without_pairs(text):
                try:
                    self.assertNotEqual(read_expression(shorter), expr, text)
                except (InvalidText, InvalidExpression):
                    pass

    def test_blanks_stand_just_where_they_are_told(self):
        for expr in helper.some_expressions(8, 200, levels=6, names="abcd", places=6):
            text = expression_text(expr)
            tokens = re.findall(r"[a-z]+|\?\?|[<>=!]=|[<>(),]", text)
            written = ""
            for ahead, token in zip(["", *tokens], tokens):
                spaced = ahead in ("and", "or", "if", "else", "not", "is", "??", ",", *SIGNS)
                spaced = spaced or token in ("and", "or", "if", "else", "is", "??", *SIGNS)
                written += (" " if spaced else "") + token
            self.assertEqual(text, written)

    def test_at_the_bounds(self):
        for expr in [helper.most_parts(), helper.most_levels(), helper.most_variables(), helper.most_places()]:
            self.assertEqual(self.check_call(read_expression, self.check_call(expression_text, expr)), expr)

    def test_what_is_no_expression(self):
        for wrong in helper.bad_expressions():
            self.check_error(InvalidExpression, expression_text, wrong)


class ReadingTest(Case):
    def test_any_number_of_blanks(self):
        expr = ("if", compare(A, ("<=", B)), ("default", A, call("f", A, ("isnone", B))), ("not", NONE))
        for blanks in ["", " ", "  ", " " * 50]:
            tokens = ["a", "??", "f", "(", "a", ",", "b", " is ", "none", ")", " if ", "a", "<=", "b"]
            text = blanks + blanks.join([*tokens, " else ", "not ", "none"]) + blanks
            self.assertEqual(self.check_call(read_expression, text), expr)
        self.assertEqual(read_expression("f (a)"), call("f", A))
        self.assertEqual(read_expression("f( )"), F)
        self.assertEqual(read_expression("not(a)"), ("not", A))
        self.assertEqual(read_expression("(a)and(b)"), ("and", A, B))
        self.assertEqual(read_expression("(a)is none"), ("isnone", A))
        self.assertEqual(read_expression(" " * 9999 + "a"), A)

    def test_words_need_blanks_between_them(self):
        self.assertEqual(read_expression("nota"), ("name", "nota"))
        self.assertEqual(read_expression("aorb"), ("name", "aorb"))
        self.check_error(InvalidText, read_expression, "aandb c", index=6)

    def test_brackets_that_are_not_needed(self):
        self.assertEqual(read_expression("((a))"), A)
        self.assertEqual(read_expression("(((a) and (b)) or ((f((a)))))"), ("or", ("and", A, B), call("f", A)))
        self.assertEqual(read_expression("(a ?? b) ?? c"), ("default", ("default", A, B), C))
        self.assertEqual(read_expression("a if b else (c if d else a)"), ("if", B, A, ("if", D, C, A)))

    def test_how_the_forms_group(self):
        cases = {
            "a or b or c": ("or", ("or", A, B), C), "a and b and c": ("and", ("and", A, B), C),
            "a ?? b ?? c": ("default", ("default", A, B), C), "not not a": ("not", ("not", A)),
            "a or b and c": ("or", A, ("and", B, C)), "a and b or c": ("or", ("and", A, B), C),
            "not a and b": ("and", ("not", A), B), "not a < b": ("not", compare(A, ("<", B))),
            "not a is none": ("not", ("isnone", A)), "a ?? b < c": compare(("default", A, B), ("<", C)),
            "a < b ?? c": compare(A, ("<", ("default", B, C))), "a ?? b is none": ("isnone", ("default", A, B)),
            "a if b else c if d else a": ("if", B, A, ("if", D, C, A)),
            "a or b if c or d else a or b": ("if", ("or", C, D), ("or", A, B), ("or", A, B)),
            "a and not b or c": ("or", ("and", A, ("not", B)), C), "f(a if b else c)": call("f", ("if", B, A, C)),
            "a<b<=c": compare(A, ("<", B), ("<=", C)), "a>=b": compare(A, (">=", B)), "f(f)": call("f", ("name", "f")),
        }
        for text, expr in cases.items():
            self.assertEqual(self.check_call(read_expression, text), expr)


class WrongTextTest(Case):
    def check_wrong(self, text, index):
        self.check_error(InvalidText, read_expression, text, index=index)

    def test_values_that_are_no_strings(self):
        for wrong in helper.no_values():
            if not isinstance(wrong, str):
                self.check_wrong(wrong, 0)

    def test_nothing_but_blanks(self):
        self.check_wrong("", 0)
        self.check_wrong(" ", 1)
        self.check_wrong(" " * 10000, 10000)

    def test_texts_that_end_too_early(self):
        for text in ["not", "a and", "a or ", "a ??", "a <  ", "a if", "a if b", "a if b else", "a is", "(", "(a", "f(",
                     "f(a", "f(a,", "f(a, ", "((a)", "not (a", "f(g()", "a < b <"]:
            self.check_wrong(text, len(text))
            self.check_wrong("  " + text + "   ", len(text) + 5)

    def test_tokens_with_which_the_text_cannot_go_on(self):
        cases = {
            "a b": 2, "a none": 2, "a not b": 2, "a)": 1, ")": 0, "()": 1, "(a))": 3, ",": 0, "a,b": 1,
            "f(,": 2, "f(a,)": 4, "f(a b": 4, "(a,b)": 2, "and a": 0, "a and and": 6, "a and or b": 6, "a or not or": 9,
            "a < not b": 4, "a ?? not b": 5, "a is b": 5, "a is not none": 5, "a is nonesuch": 5,
            "a is none is none": 10, "a is none < b": 10, "a is none ?? b": 10, "a < b is none": 6,
            "a is (none)": 5, "is none": 0, "< a": 0,
            "a < < b": 4, "a <= = b": 5, "a if b if c else d": 7, "a else b": 2, "a if b else else": 12, "if a": 0,
            "a if if": 5, "f(a)(b)": 4, "(f)(a)": 3, "none(": 4, "true()": 4, "f()a": 3, "f() g()": 4, "(a)b": 3,
            "a ?? ?? b": 5, "not ,": 4, "a if b, c": 6, "f(a if b, c": 8, "not and": 4,
        }
        for text, index in cases.items():
            self.check_wrong(text, index)

    def test_words_that_are_no_names(self):
        barred = [word for word in BARRED if word not in ("none", "true", "false", "not")]
        for word in ["abcdefghi", "a" * 2000, "z" * 9999, *barred]:
            self.check_wrong(word, 0)
            self.check_wrong(f"  {word} and b", 2)
            self.check_wrong(f"a and {word}", 6)
            self.check_wrong(f"{word}(a)", 0)
            if word not in ("and", "or", "if", "is"):
                self.check_wrong(f"a {word}", 2)

    def test_characters_with_which_no_token_begins(self):
        for sign in "!=?+-*/.;:'\"[]{}_@#$&|~^`\\\t\nAZ019":
            self.check_wrong(sign, 0)
            self.check_wrong(f"  {sign}", 2)
            self.check_wrong(f"a {sign}", 2)
            self.check_wrong(f"a and {sign}b", 6)
            self.check_wrong(f"a{sign}b", 1)
            self.check_wrong(f"f(a{sign}", 3)

    def test_signs_take_two_characters_where_they_fit(self):
        self.check_wrong("a = = b", 2)
        self.check_wrong("a === b", 4)
        self.check_wrong("a <== b", 4)
        self.check_wrong("a < = b", 4)
        self.check_wrong("a ! = b", 2)
        self.check_wrong("a ??? b", 4)
        self.check_wrong("a ? b", 2)
        self.check_wrong("a <> b", 3)
        self.check_wrong("a >> b", 3)
        self.check_wrong("a >>= b", 3)
        self.check_wrong("a <<= b", 3)

    def test_the_least_index_counts(self):
        self.check_wrong("a b A", 2)
        self.check_wrong("a A b", 2)
        self.check_wrong("abcdefghi A", 0)
        self.check_wrong("a and abcdefghi)", 6)
        self.check_wrong("(a ;", 3)
        self.check_wrong("a and ) abcdefghi", 6)

    def test_all_short_texts(self):
        """Against a table of all that can follow, which is made from the rules by themselves."""
        tokens = ["a", "none", "not", "and", "or", "if", "else", "is", "<", "==", "??", "(", ")", ","]
        waiting = [([], begin())]
        while waiting:
            ahead, table = waiting.pop()
            text = "  ".join([*ahead, ""])
            if complete(table):
                self.assertIsNone(check_expression(read_expression(text)))
            else:
                self.check_wrong(text, len(text))
            for token in tokens:
                longer = behind(table, token)
                if longer is None:
                    self.check_wrong(text + token, len(text))
                    self.check_wrong(text + token + " a", len(text))
                    self.check_wrong(text + token + " A", len(text))
                elif len(ahead) < 5:
                    waiting.append(([*ahead, token], longer))

    def test_changed_texts(self):
        """Texts of larger expressions with a token too much, too few, or two exchanged."""
        for expr in helper.some_expressions(9, 12, levels=5, names="a", places=3):
            text = expression_text(expr).replace("f(", "a(").replace("g(", "a(")
            tokens = re.findall(r"[a-z]+|\?\?|[<>=!]=|[<>(),]", text)
            changed = [tokens[:at] + tokens[at + 1:] for at in range(len(tokens))]
            for more in ["a", "not", ")", "is"]:
                changed += [tokens[:at] + [more] + tokens[at:] for at in range(len(tokens) + 1)]
            changed += [[*tokens[:at], tokens[at + 1], tokens[at], *tokens[at + 2:]] for at in range(len(tokens) - 1)]
            for wrong in changed:
                self.check_against_rules(wrong)

    def check_against_rules(self, tokens):
        table = begin()
        for at, token in enumerate(tokens):
            table = behind(table, token)
            if table is None:
                return self.check_wrong(" ".join(tokens), len(" ".join([*tokens[:at], ""])))
        if not complete(table):
            return self.check_wrong(" ".join(tokens), len(" ".join(tokens)))
        try:
            check_expression(read_expression(" ".join(tokens)))
        except InvalidExpression:
            pass


class TextBoundsTest(Case):
    def test_the_201st_token(self):
        many = "not " * 199 + "a"
        self.check_error(InvalidExpression, read_expression, many)
        self.check_error(InvalidExpression, read_expression, many + "   ")
        for more in ["and", "b", "and b", "<", ")", ";", "abcdefghi", "A"]:
            self.check_error(InvalidText, read_expression, f"{many}  {more}", index=len(many) + 2)
        text = "not " * 200
        self.check_error(InvalidText, read_expression, text, index=len(text))
        self.check_error(InvalidText, read_expression, text + "a", index=len(text))
        self.check_error(InvalidText, read_expression, "not " * 5000, index=800)
        text = "a or " * 99 + "a"
        self.check_error(InvalidExpression, read_expression, text + " ")
        self.check_error(InvalidText, read_expression, text + " or", index=len(text + " or"))
        self.check_error(InvalidText, read_expression, text + " or a", index=len(text + " or "))

    def test_of_the_first_200_no_bound_is_seen(self):
        text = "not " * 199
        self.check_error(InvalidText, read_expression, text + "(", index=len(text) + 1)
        self.check_error(InvalidText, read_expression, text + "( a", index=len(text) + 2)
        self.check_error(InvalidText, read_expression, text + "and a", index=len(text))
        self.check_error(InvalidText, read_expression, text[:-4] + "( )", index=len(text) - 2)

    def test_30_brackets_may_be_open(self):
        self.assertEqual(read_expression("(" * 30 + "a" + ")" * 30), A)
        self.assertEqual(read_expression("(" * 29 + "f()" + ")" * 29), F)
        self.check_error(InvalidText, read_expression, "(" * 31 + "a" + ")" * 31, index=30)
        self.check_error(InvalidText, read_expression, "(" * 30 + "f()" + ")" * 30, index=31)
        self.check_error(InvalidText, read_expression, "(" * 30 + "f" + " ()" + ")" * 30, index=32)
        self.check_error(InvalidText, read_expression, "(" * 31, index=30)
        self.check_error(InvalidText, read_expression, "(" * 30, index=30)
        self.check_error(InvalidText, read_expression, "f(" * 31, index=61)
        self.check_error(InvalidText, read_expression, "f(" * 30, index=60)
        self.check_error(InvalidExpression, read_expression, "f(" * 30 + ")" * 30)
        self.check_error(InvalidText, read_expression, "(" * 10000, index=30)

    def test_brackets_that_were_closed_do_not_count(self):
        text = " and ".join(["(" * 30 + "a" + ")" * 30] * 3)
        self.assertEqual(read_expression(text), ("and", ("and", A, A), A))
        calls = "f(f(), " * 5 + "a" + ")" * 5
        self.check_error(InvalidExpression, read_expression, calls)
        self.check_error(InvalidText, read_expression, "(" * 29 + "f() and (a and (b", index=44)

    def test_right_texts_that_are_too_large(self):
        """InvalidExpression for a right text, but the text's own error ahead of it."""
        large = [
            "f(a, a, a, a)", "f(" + ", ".join(["a"] * 90) + ")", "a < b < c < d < a < b", "a < b" + " < c" * 90,
            "not " * 12 + "a", "a and b and c and d and e", " and ".join(["f()"] * 7), " or ".join(["a"] * 21),
            "a < f() < g() < h() < f()", "(" * 12 + "a" + " and b)" * 12, " if a else ".join(["b"] * 30),
        ]
        for text in large:
            self.check_error(InvalidExpression, read_expression, text)
            self.check_error(InvalidText, read_expression, text + " b", index=len(text) + 1)
            self.check_error(InvalidText, read_expression, text + " or ", index=len(text) + 4)
        self.assertEqual(read_expression("f(a, a, a)"), call("f", A, A, A))
        self.assertEqual(read_expression("not " * 11 + "a"), helper.most_levels())


if __name__ == "__main__":
    unittest.main()
