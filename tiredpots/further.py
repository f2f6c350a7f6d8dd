"""Further dips: those that a book does not have yet."""


def with_dips(book, dips):
    """Returns a new book with the contents of the book and these dips behind its own."""
    longer = book.duplicate()
    for cloth, pot in dips:
        longer.dip(cloth, pot)
    return longer
