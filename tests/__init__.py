"""The tests of towerduel."""
