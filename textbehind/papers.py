"""Papers: trees that show that no text has a list, or none with few letters."""

from textbehind.checks import check_list, check_most
from textbehind.nodes import Claim, shows
from textbehind.proofs import paper_for


def refusal(size, things, *, most=None):
    """A paper that no text, or none with at most so many different letters, has the list; None if there is one."""
    check_list(size, things)
    check_most(most)
    return paper_for(size, things, most)


def judge(size, things, paper, *, most=None):
    """Whether any object is a paper that no text, or none with at most so many different letters, has the list."""
    check_list(size, things)
    check_most(most)
    return shows(Claim(size, things, most), {}, paper)
