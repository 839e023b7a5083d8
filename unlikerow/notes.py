"""Rows written as texts, and read back."""

from unlikerow.errors import NoRow

NUMBER_FIGURES = 30


def are_figures(word, most):
    """One figure to so many, with no nought ahead but `0` itself."""
    if not 1 <= len(word) <= most or not all([sign in "0123456789" for sign in word]):
        return False
    return word == "0" or not word.startswith("0")


def is_number(word):
    if word.startswith("-"):
        return word != "-0" and are_figures(word[1:], NUMBER_FIGURES)
    return are_figures(word, NUMBER_FIGURES)


def show_row(row):
    if len(row) == 0:
        return "-"
    return " ".join([str(number) for number in row])


def read_row(text):
    if text == "-":
        return []
    words = text.split(" ")
    if not all([is_number(word) for word in words]):
        raise NoRow("this is no row's text")
    return [int(word) for word in words]
