"""Texts taken apart into words and marks."""

from gatepapers.errors import NoText

LETTERS = "abcdefghijklmnopqrstuvwxyz"
FIGURES = "0123456789"
BLANKS = " \n"
MARKS = ("(", ")")
KEPT = (
    "part", "end", "in", "out", "wire", "memory", "rooms", "go", "use", "number", "of", "at",
    "not", "and", "or", "xor", "plus", "minus", "same", "less", "if", "join", "cut",
)
MOST_SIGNS = 6000
MOST_LETTERS = 8
MOST_FIGURES = 3


def words_of(text):
    """The words and marks of a text in their order, those of figures as numbers; of anything."""
    if not isinstance(text, str):
        raise NoText("this is no text")
    if len(text) > MOST_SIGNS:
        raise NoText(f"a text has at most {MOST_SIGNS} signs")
    words = []
    at = 0
    while at < len(text):
        end = run_end(text, at)
        if end > at:
            words.append(word_of(text[at:end]))
            at = end
        else:
            if text[at] in MARKS:
                words.append(text[at])
            elif text[at] not in BLANKS:
                raise NoText(f"the sign {text[at]!r} stands in no text")
            at += 1
    return words


def run_end(text, at):
    """Where the run of letters and figures ends that begins at a place."""
    # Letters and figures make one run, so that those that touch are found together and refused.
    while at < len(text) and (text[at] in LETTERS or text[at] in FIGURES):
        at += 1
    return at


def word_of(run):
    """A run of letters as it is, of figures as its number."""
    if all([sign in LETTERS for sign in run]) and len(run) <= MOST_LETTERS:
        return run
    if all([sign in FIGURES for sign in run]) and len(run) <= MOST_FIGURES:
        if run[0] != "0" or run == "0":
            return int(run)
    raise NoText(f"{run!r} is no word")


def is_name(word):
    """Whether what words_of tells is a name."""
    return isinstance(word, str) and word not in MARKS and word not in KEPT
