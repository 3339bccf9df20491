"""The refusals: one class each, all of them straight under BraidError."""


class BraidError(ValueError):
    """Any refusal."""


class NoWord(BraidError):
    """The crossings are no word of so many strings."""


class BadText(BraidError):
    """The text does not write a word."""


class NoMove(BraidError):
    """The exchange can't be done there."""


class NoRow(BraidError):
    """There is no such row."""


class NoForm(BraidError):
    """The form is not sound."""


class Unlike(BraidError):
    """The two words are not the same."""


class NoString(BraidError):
    """There is no such string, or it can't be taken out or doubled."""


class BadPicture(BraidError):
    """The text does not draw a word."""


class TooMany(BraidError):
    """There are more summit forms than were asked for."""
