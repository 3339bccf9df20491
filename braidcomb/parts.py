"""The two least words by whose ends a word is told."""

from braidcomb.forms import form, form_turned, form_word


def parted(n, word):
    """Tell two words above nought: the first one turned, and the second one behind it, are the same as the word."""
    whole = form(n, word)
    halves = whole[0]
    rows = whole[1]
    if halves >= 0:
        return ([], form_word(n, whole))
    # Each half turn below nought takes one row with it. Together they are below nought, and the rows behind
    # them have no crossing left that could go over, so nothing stands first on both sides.
    taken = (halves, rows[:-halves])
    return (form_word(n, form_turned(n, taken)), form_word(n, (0, rows[-halves:])))
