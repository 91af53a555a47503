"""Papers as texts (point 31)."""

from roadcall.errors import NoText
from roadcall.nettexts import (figures, is_number, need_text, read_figures, read_rows, read_word, written_sets,
                               written_word)
from roadcall.papers import SIZES


def show_paper(paper):
    """A paper that some net's look lets by, as a text."""
    if paper[0] == "call":
        return f"call {written_sets(paper[1])} {written_word(paper[2])} {paper[3]}"
    if paper[0] == "beat":
        return f"beat {paper[1]} {figures(paper[2])}"
    if paper[0] == "never":
        return f"never {written_sets(paper[1])}"
    words = ",".join([written_word(word) for word in paper[2]])
    return f"stable {written_sets(paper[1])} {words}"


def read_number(text):
    """The whole number that is so written."""
    if not is_number(text):
        raise NoText("this is no number as written")
    return int(text)


def read_pair(text):
    """The two places that are written as a pair; they may be none all the same."""
    pair = read_figures(text)
    if len(pair) != 2:
        raise NoText("these are not two figures")
    return pair


def read_pairs(text):
    """A tuple of what is written as pairs with commas."""
    return tuple(read_pair(part) for part in text.split(","))


def read_paper(text):
    """The paper that is so written; it may show nothing all the same."""
    need_text(text)
    parts = text.split(" ")
    if SIZES.get(parts[0]) != len(parts):
        raise NoText("this is no paper as written")
    if parts[0] == "call":
        return "call", read_rows(parts[1].split(",")), read_word(parts[2]), read_number(parts[3])
    if parts[0] == "beat":
        return "beat", read_number(parts[1]), read_figures(parts[2])
    if parts[0] == "never":
        return "never", read_pairs(parts[1])
    return "stable", read_pairs(parts[1]), tuple(read_word(part) for part in parts[2].split(","))
