"""The errors of the package: each one stands under ShaftError alone."""


class ShaftError(ValueError):
    """What all errors of the package have in common."""


class InvalidFraction(ShaftError):
    """Tells of what is no fraction of the kind that is asked for."""

    def __init__(self, given):
        self.given = given


class InvalidPolynomial(ShaftError):
    """Tells of what is no polynomial of the kind that is asked for."""

    def __init__(self, given):
        self.given = given


class InvalidPoint(ShaftError):
    """Tells of what is neither a fraction nor a knot, or a point out of bounds."""

    def __init__(self, given):
        self.given = given


class InvalidLot(ShaftError):
    """Tells of what is no lot of paces."""

    def __init__(self, given):
        self.given = given


class InvalidPace(ShaftError):
    """Tells of what is no fraction that can be a pace here."""

    def __init__(self, given):
        self.given = given


class InvalidLine(ShaftError):
    """Tells of what is no line."""

    def __init__(self, given):
        self.given = given


class InvalidDisc(ShaftError):
    """Tells of what is no index of a disc."""

    def __init__(self, given):
        self.given = given


class InvalidShaft(ShaftError):
    """Tells of what is no index of a shaft of the kind that is asked for."""

    def __init__(self, given):
        self.given = given


class InvalidIndex(ShaftError):
    """Tells of what is no number of a swing, or no index of a wish."""

    def __init__(self, given):
        self.given = given


class InvalidNumber(ShaftError):
    """Tells of what is no whole number of the kind that is asked for."""

    def __init__(self, given):
        self.given = given


class InvalidBox(ShaftError):
    """Tells of what is no box of lines."""

    def __init__(self, given):
        self.given = given


class InvalidSign(ShaftError):
    """Tells of what is no sign."""

    def __init__(self, given):
        self.given = given


class InvalidSlot(ShaftError):
    """Tells of what is no slot of the line."""

    def __init__(self, given):
        self.given = given


class InvalidAmount(ShaftError):
    """Tells of what is no amount."""

    def __init__(self, given):
        self.given = given


class InvalidShape(ShaftError):
    """Tells of what is no shape of the kind that is asked for."""

    def __init__(self, given):
        self.given = given


class InvalidMachine(ShaftError):
    """Tells of what is no machine."""

    def __init__(self, given):
        self.given = given


class InvalidEngine(ShaftError):
    """Tells of what is no engine of the kind that is asked for."""

    def __init__(self, given):
        self.given = given


class InvalidOrder(ShaftError):
    """Tells of what is no order of the kind that is asked for."""

    def __init__(self, given):
        self.given = given


class InvalidName(ShaftError):
    """Tells of what can be no name in a workshop."""

    def __init__(self, given):
        self.given = given


class InvalidWish(ShaftError):
    """Tells of what can be no wish."""

    def __init__(self, given):
        self.given = given


class InvalidPhrase(ShaftError):
    """Tells of what a console does not understand."""

    def __init__(self, given):
        self.given = given


class NotAWorkshop(ShaftError):
    """Tells of what is no workshop."""

    def __init__(self, given):
        self.given = given


class UnknownName(ShaftError):
    """Tells of what is no name in the workshop."""

    def __init__(self, given):
        self.given = given


class Same(ShaftError):
    """Tells of a point that is the same number as the one before it."""

    def __init__(self, given):
        self.given = given


class Unlike(ShaftError):
    """Tells of a line that has not as many discs as the one before it."""

    def __init__(self, given):
        self.given = given


class InvalidReadings(ShaftError):
    """Tells of readings: where the first wrong one is."""

    def __init__(self, index):
        self.index = index


class InvalidStock(ShaftError):
    """Tells of a stock of swallowers: where the first wrong one is."""

    def __init__(self, index):
        self.index = index


class InUse(ShaftError):
    """Tells of a name that a wish needs: which wish is the first one."""

    def __init__(self, index):
        self.index = index


class Broken(ShaftError):
    """Tells of a change that would break a wish: which wish is the first one."""

    def __init__(self, index):
        self.index = index


class Nought(ShaftError):
    """Tells of the polynomial () where it is not let."""


class TooManyDiscs(ShaftError):
    """Tells of a machine that has no room for one more disc."""


class NothingToUndo(ShaftError):
    """Tells of a workshop without a change to take back."""
