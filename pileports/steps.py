"""Steps that can be undone and redone, for everything that has a history."""

from pileports.errors import NothingLeft


class Steps:
    """A present state, those before it, and those that were undone. States are kept as they are, so none may change."""

    def __init__(self, present):
        self.past = []
        self.present = present
        self.future = []

    def take(self, state):
        """Make a step to a state; what was undone can no longer be redone."""
        self.past.append(self.present)
        self.present = state
        self.future = []

    def back(self):
        """Undo the last step."""
        if len(self.past) == 0:
            raise NothingLeft()
        self.future.append(self.present)
        self.present = self.past.pop()

    def forth(self):
        """Redo the step that was undone last."""
        if len(self.future) == 0:
            raise NothingLeft()
        self.past.append(self.present)
        self.present = self.future.pop()

    def counts(self):
        """Return the pair (number of steps that can be undone, number of steps that can be redone)."""
        return (len(self.past), len(self.future))

    def doubled(self):
        """Return independent steps with the same states."""
        double = Steps(self.present)
        double.past = list(self.past)
        double.future = list(self.future)
        return double
