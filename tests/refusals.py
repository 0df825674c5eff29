"""What the tests ask of a refusal: its class, its head and its fields."""

from treelore import errors


def refusal_of(call, *things):
    """The refusal that a call ends with, None where it ends with none."""
    try:
        call(*things)
    except errors.TreeError as refusal:
        return refusal
    return None


def told_of(refusal):
    """A refusal's class name and its fields in their order, None of None."""
    if refusal is None:
        return None
    return (refusal.__class__.__name__, *vars(refusal).values())


class RefusalChecks:
    """Stands beside a TestCase."""

    def refused(self, told, call, *things):
        """The call is refused with what is told: the class name, and the fields behind it."""
        refusal = refusal_of(call, *things)
        self.assertEqual(told_of(refusal), told)
        for field, wanted in zip(vars(refusal).values(), told[1:]):
            # A field that was handed in may be too large to be written out; and 1 == True is not enough.
            self.assertTrue(field is wanted or repr(field) == repr(wanted))
        self.assertIsInstance(refusal, errors.TreeError)
