"""Forms: how the levels of a table are stored."""

from levelwalks.basics import frozen, is_whole
from levelwalks.errors import BadForm

MOST_LEVELS = 3
AXIS_WORDS = ("0", "1", "2")


def are_axes(axes, many):
    """Tell whether axes are a tuple of the integers below `many`, each exactly once."""
    if not isinstance(axes, tuple) or len(axes) != many:
        return False
    if not all([is_whole(axis) for axis in axes]):
        return False
    return all([axis in axes for axis in range(many)])


class Form:
    """One level for each axis, each with a kind and an axis."""

    KINDS = ("dense", "packed", "bits", "hashed")

    def __init__(self, *kinds, axes=None):
        if axes is None:
            axes = list(range(len(kinds)))
        self.kinds = tuple(kinds)
        self.axes = frozen(axes)
        if len(self.kinds) > MOST_LEVELS:
            raise BadForm()
        if not all([kind in Form.KINDS for kind in self.kinds]):
            raise BadForm()
        if not are_axes(self.axes, len(self.kinds)):
            raise BadForm()

    @property
    def text(self):
        if len(self.kinds) == 0:
            return "-"
        return ", ".join([f"{kind} {axis}" for kind, axis in zip(self.kinds, self.axes)])

    @classmethod
    def read(cls, text):
        """Return the form with this text."""
        if text == "-":
            return Form()
        kinds = []
        axes = []
        for level in text.split(", "):
            words = level.split(" ")
            if len(words) != 2 or words[1] not in AXIS_WORDS:
                raise BadForm()
            kinds.append(words[0])
            axes.append(int(words[1]))
        return Form(*kinds, axes=axes)


def leading_depth(form, depth):
    """Return to how many of its first levels a path must lead to a value, so that these levels store it.

    A dense level stores all coordinates, so only the last level among them that is not dense counts.
    """
    return max([level + 1 for level in range(depth) if form.kinds[level] != "dense"], default=0)
