"""The base of the papers that tell an answer."""


class Verdict:
    """One of the two papers that a function returns. As a bool it is True for the one that is named first."""
