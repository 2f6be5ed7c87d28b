"""Formgrove: documents of tags within tags, and forms for them."""
