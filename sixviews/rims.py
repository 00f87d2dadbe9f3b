"""The outline of a sheet."""


def outline(sheet):
    """The sheet minus the sheet turned inside out."""
    return sheet - ~sheet
