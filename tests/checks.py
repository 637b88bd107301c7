"""What the tests ask of errors, and how they run the examples of the document."""

from unittest import TestCase


def first_of(generator):
    """A call that makes a generator, which must not fail, and then asks for its first element."""
    def call(*args, **named):
        made = generator(*args, **named)
        return next(made)
    return call


def run_example(code, names):
    """What the document says of a row of an example: what it shows, or what it raises."""
    try:
        try:
            shown = repr(eval(code, names))
        except SyntaxError:
            exec(code, names)
            shown = ""
    except Exception as error:
        name = type(error).__name__
        return (f"raises {name}", f"raises {error!r}")
    return (shown,)


class Checks(TestCase):
    """A test case that can ask for just one class of errors, and for what an error keeps."""

    def fails(self, error, call, *args, **named):
        """The error of a call, which must be of just this class."""
        try:
            made = call(*args, **named)
        except Exception as caught:
            self.assertIs(type(caught), error, (args, named, repr(caught)))
            return caught
        self.fail(f"{error.__name__} is missing for {args} {named}: {made}")

    def fails_with(self, error, kept, call, *args, **named):
        """The call raises an error of just this class, which keeps just this value."""
        caught = self.fails(error, call, *args, **named)
        (found,) = vars(caught).values()
        self.assertIs(type(found), type(kept))
        self.assertEqual(found, kept)

    def examples(self, text, names):
        """Each row of the examples shows what the document tells."""
        rows = text.strip().splitlines()
        for at, row in enumerate(rows):
            if not row.startswith(">>> "):
                continue
            told = ""
            if at + 1 < len(rows) and not rows[at + 1].startswith(">>> "):
                told = rows[at + 1]
            self.assertIn(told, run_example(row[4:], names), row)
