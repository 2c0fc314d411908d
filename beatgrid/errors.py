"""The refusals of the program."""


class GridError(ValueError):
    """Any refusal."""


class NoNet(GridError):
    """What should be a net is none."""


class NoFeed(GridError):
    """A feed has another count of rows or columns than its net."""


class NoCount(GridError):
    """A count is out of its bounds."""


class NoTable(GridError):
    """What should be a table is none, or two tables do not go together."""


class NoFault(GridError):
    """A fault is none of the run."""


class NoSchedule(GridError):
    """A schedule is wrong; `reason` is what is wrong with it."""

    def __init__(self, reason):
        super().__init__("the schedule is wrong")
        self.reason = reason


class NoText(GridError):
    """A text is not what a state is written as."""
