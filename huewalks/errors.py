"""All errors that the program raises on purpose."""


class HueError(ValueError):
    """The base class of all errors of the program."""


class BadWeb(HueError):
    """A web is due and the argument is none, or one of its arrows is wrong."""

    def __init__(self, bad_at):
        self.bad_at = bad_at


class BadOrder(HueError):
    """An order is due and the argument is none, or one of its pairs is wrong."""

    def __init__(self, bad_at):
        self.bad_at = bad_at


class BadWalk(HueError):
    """A walk is due and the argument is none."""

    def __init__(self, bad_at):
        self.bad_at = bad_at


class BadBounds(HueError):
    """Bounds are due and the argument is none, or one of them is wrong."""

    def __init__(self, bad_at):
        self.bad_at = bad_at


class BadHueing(HueError):
    """A hueing is due and the argument is none, or one of its hues is wrong."""

    def __init__(self, bad_at):
        self.bad_at = bad_at


class BadLaying(HueError):
    """A laying is due and the argument is none, or one of its things is wrong."""

    def __init__(self, bad_at):
        self.bad_at = bad_at


class BadThings(HueError):
    """A sequence of things is due and the argument is none, or one of them is wrong."""

    def __init__(self, bad_at):
        self.bad_at = bad_at


class BadTable(HueError):
    """A table is due and the argument is none, or one of its rows is wrong."""

    def __init__(self, bad_at):
        self.bad_at = bad_at


class BadPoints(HueError):
    """Points are due and the argument is none, or one of them is wrong."""

    def __init__(self, bad_at):
        self.bad_at = bad_at


class BadPaper(HueError):
    """A paper is due and the argument is not well formed."""

    def __init__(self, bad_at):
        self.bad_at = bad_at


class BadNumber(HueError):
    """An integer is due and the argument is none, or is out of range."""


class BadText(HueError):
    """A line of a text is wrong; line 0 stands for an argument that is no string."""

    def __init__(self, line_number):
        self.line_number = line_number


class TooMany(HueError):
    """There are more things of some kind than the limit allows."""

    def __init__(self, most):
        self.most = most


class TooLong(HueError):
    """A hueing has a road with as many steps as the bound of its hue."""

    def __init__(self, road_hue, road_walk):
        self.road_hue = road_hue
        self.road_walk = road_walk


class RowTooLong(HueError):
    """A row has more places than the row limit."""

    def __init__(self, row_most):
        self.row_most = row_most


class Unhued(HueError):
    """A hueing is due and a walk is still bare."""

    def __init__(self, bare_walk):
        self.bare_walk = bare_walk


class Ended(HueError):
    """A watch that has ended is told a further place."""
