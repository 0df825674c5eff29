"""Hearers for the tests: each writes down what it is told."""

from treelore.makes import Hearer


class Notes(Hearer):
    """Writes into a list, which several may have together, and does what it is handed when it hears or settles."""

    def __init__(self, rows, name="", on_heard=None, on_settle=None):
        self.rows = rows
        self.name = name
        self.on_heard = on_heard
        self.on_settle = on_settle

    def heard(self, before, deed):
        self.rows.append((self.name, "heard", before, deed))
        if self.on_heard is not None:
            self.on_heard()

    def settle(self):
        self.rows.append((self.name, "settle"))
        if self.on_settle is not None:
            self.on_settle()
