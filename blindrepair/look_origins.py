"""A look at a row that is told to lead from one text to another one."""

from blindrepair.checks import check_misreadings
from blindrepair.letters import check_text, is_index, is_text


def shows_origin(misreadings, text, row, origin):
    """Whether any two values are a text and a row of steps that leads from it to a text."""
    check_misreadings(misreadings)
    check_text(text)
    if not is_text(origin) or not isinstance(row, tuple):
        return False
    if not all([is_index(index, len(misreadings)) for index in row]):
        return False
    reached = origin
    for index in row:
        misreading = misreadings[index]
        # An image never gets shorter again: one that is longer than the text cannot become the text.
        if len(reached) > len(text) or misreading.first_barred(reached) is not None:
            return False
        image = misreading.image(reached)
        if image == reached:
            return False
        reached = image
    return reached == text
