"""What PAPERS of every sort have in common: their form."""

from shortbars.errors import BadPaper


def word_of_paper(paper, forms):
    """The word of a PAPER, by pairs (WORD, SIZE) of forms; BadPaper("form") of what has none of these."""
    if not isinstance(paper, tuple) or len(paper) == 0 or not isinstance(paper[0], str):
        raise BadPaper("form")
    for word, size in forms:
        if paper[0] == word and len(paper) == size:
            return word
    raise BadPaper("form")
