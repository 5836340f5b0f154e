"""Mumtrial: trials for machines that may say nothing."""
