"""A value that nothing may be done with but to ask what kind it is of."""


class Odd:
    """A value that resents being looked at."""

    def __eq__(self, other):
        raise RuntimeError("compared")

    def __bool__(self):
        raise RuntimeError("tested")

    def __len__(self):
        raise RuntimeError("measured")

    def __iter__(self):
        raise RuntimeError("iterated over")

    __hash__ = None
