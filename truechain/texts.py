"""The texts of papers and of fractions: each paper has one text, from which it can be read again."""

from truechain.errors import NoText, require
from truechain.fractions import is_fraction
from truechain.papers import KIND_AT, ROW_PARTS, fault_in, is_kind, parts_of

WHOLE_PARTS = ("key", "day", "term", "level", "mark", "piece")
FRACTION_PARTS = ("rate", "low", "high", "difference", "slack")
POINTS_PARTS = ("marks", "spot")
ROW_WORD = ":"
# No number in a paper is longer, and Python refuses to read very long ones.
MOST_FIGURES = 13


def show_fraction(fraction):
    """Tell the text of a fraction."""
    require(is_fraction(fraction))
    top, bottom = fraction
    return str(top) if bottom == 1 else f"{top}/{bottom}"


def show_paper(paper):
    """Tell the text of a paper."""
    return " ".join(paper_words(paper))


def read_paper(text):
    """Tell the paper that has this text."""
    if not isinstance(text, str):
        raise NoText()
    paper = paper_of(text.split(" "))
    # What reads the words is lenient: only the paper's own text is its text.
    if paper is None or fault_in(paper) is not None or show_paper(paper) != text:
        raise NoText()
    return paper


def paper_words(paper):
    """Tell the words of a paper's text, in order."""
    words = []
    for part, worth in zip(parts_of(paper), paper):
        if part == "rows":
            words.extend(rows_words(worth, ROW_PARTS[paper[KIND_AT]]))
        else:
            words.append(word_of(part, worth))
    return words


def rows_words(rows, parts):
    """Tell the words of rows with these parts, in order."""
    words = []
    for row in rows:
        words.append(ROW_WORD)
        words.extend([word_of(part, worth) for part, worth in zip(parts, row)])
    return words


def word_of(part, worth):
    """Tell the word of one part of a paper or of a row."""
    if part in POINTS_PARTS:
        return ",".join([str(point) for point in worth])
    if part in FRACTION_PARTS:
        return show_fraction(worth)
    return str(worth)


def paper_of(words):
    """Tell the one paper that words may be the text of; of other words, what is no paper or has another text."""
    if len(words) <= KIND_AT or not is_kind(words[KIND_AT]):
        return None
    parts = parts_of(words)
    if parts[-1] != "rows":
        return tuple(worths_of(parts, words))
    ahead = parts[:-1]
    rows = rows_of(words[len(ahead):], ROW_PARTS[words[KIND_AT]])
    return tuple(worths_of(ahead, words) + [rows])


def rows_of(words, parts):
    """Tell the rows with these parts that words may be the text of."""
    step = 1 + len(parts)
    return [tuple(worths_of(parts, words[at + 1:at + step])) for at in range(0, len(words), step)]


def worths_of(parts, words):
    """Tell what stands in the words for parts, as many as there are of both."""
    return [worth_of(part, word) for part, word in zip(parts, words)]


def worth_of(part, word):
    """Tell what stands in the word for one part of a paper or of a row."""
    if part in WHOLE_PARTS:
        return whole_of(word)
    if part in FRACTION_PARTS:
        return fraction_of(word)
    if part in POINTS_PARTS:
        return [whole_of(point) for point in word.split(",")]
    return word


def whole_of(word):
    """Tell the whole number that a word of figures is, or None for other words and for too many figures."""
    if not 1 <= len(word) <= MOST_FIGURES or not all("0" <= sign <= "9" for sign in word):
        return None
    return int(word)


def fraction_of(word):
    """Tell the top and the bottom that a word tells, in lowest terms or not, or None for other words."""
    top, stroke, bottom = word.partition("/")
    size = whole_of(top.removeprefix("-"))
    share = whole_of(bottom) if stroke else 1
    if size is None or share is None:
        return None
    return (-size if top.startswith("-") else size, share)
