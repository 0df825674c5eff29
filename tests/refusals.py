"""What the tests ask of a refusal: its class, its head and its fields."""

import reprlib

from treelore import errors


def refusal_of(call, *things):
    """The refusal that a call ends with, None where it ends with none."""
    try:
        call(*things)
    except errors.TreeError as refusal:
        return refusal
    return None


def told_of(refusal):
    """A refusal's class name and its fields in their order, None of None."""
    if refusal is None:
        return None
    return (refusal.__class__.__name__, *vars(refusal).values())


class RefusalChecks:
    """Stands beside a TestCase."""

    def refused(self, told, call, *things):
        """The call is refused with what is told: the class name, and the fields behind it."""
        refusal = refusal_of(call, *things)
        if refusal is None:
            # What was handed in may be too large to be written out whole.
            self.fail(f"{call.__name__} is not refused with {told[0]}: {reprlib.repr(things)}")
        self.assertEqual(refusal.__class__.__name__, told[0], reprlib.repr(things))
        fields = list(vars(refusal).values())
        self.assertEqual(len(fields), len(told) - 1)
        for field, wanted in zip(fields, told[1:]):
            if field is not wanted:
                # Written out, as 1 == True is not enough.
                self.assertEqual(reprlib.repr(field), reprlib.repr(wanted))
                self.assertEqual(repr(field), repr(wanted))
        self.assertIsInstance(refusal, errors.TreeError)
